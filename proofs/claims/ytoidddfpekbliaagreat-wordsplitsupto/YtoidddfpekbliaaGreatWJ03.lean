/-
  word: a program as it is handed in: in plain words, and in memory; which programs may be.
-/
import Derived.Test.YtoidddfpekbliaaGreatWJ01
import Derived.Test.YtoidddfpekbliaaGreatWHow
import Derived.Lib.AppendZerosOnto
import Derived.Deep.DeepMust
namespace Go.Proofs.YtoidddfpekbliaaGreat
set_option linter.unusedSimpArgs false
set_option linter.unusedVariables false
open Go.RowKit

/-- an instruction -/
structure Wd where
  k : Int
  d : Int
  a : Int
  b : Int
  l : Int
  f : Int
  cond : Int
  real : Int
  size : Int
  imm : Int
  av : Value
  args : List Int
def eW (x : Wd) : List Value := [.int .i64 x.k, .int .i64 x.d, .int .i64 x.a, .int .i64 x.b, .int .i64 x.l, .int .i64 x.f, .int .i64 x.cond, .int .i64 x.real, .int .i64 x.size, .int .i64 x.imm, x.av]
def Wd.val (x : Wd) : Value := .agg #[.int .i64 x.k, .int .i64 x.d, .int .i64 x.a, .int .i64 x.b, .int .i64 x.l, .int .i64 x.f, .int .i64 x.cond, .int .i64 x.real, .int .i64 x.size, .int .i64 x.imm, x.av]
/-- a function -/
structure Wf where
  name : ByteArray
  params : Int
  regs : Int
  slots : Int
  cv : Value
  code : List Wd
def eF (f : Wf) : List Value := [.string f.name, .int .i64 f.params, .int .i64 f.regs, .int .i64 f.slots, f.cv]
def Wf.val (f : Wf) : Value := .agg #[.string f.name, .int .i64 f.params, .int .i64 f.regs, .int .i64 f.slots, f.cv]
/-- a program -/
structure Wp where
  fv : Value
  funs : List Wf
  dv : Value
  data : List Int
  zero : Int
def Wp.val (p : Wp) : Value := .agg #[p.fv, p.dv, .int .i64 p.zero]
def eB (x : Int) : List Value := [.int .u8 x]

/-- an instruction that can be read -/
structure WA (w : World) (x : Wd) : Prop where
  args : LD 1 eI w x.av x.args
  ok : i64ok x.k ∧ i64ok x.d ∧ i64ok x.a ∧ i64ok x.b ∧ i64ok x.l ∧ i64ok x.f ∧ i64ok x.cond ∧ i64ok x.real ∧ i64ok x.size ∧ i64ok x.imm
  aok : ∀ y ∈ x.args, i64ok y
  len : x.args.length ≤ 1073741824
theorem WA.no {w w' : World} {x : Wd} (h : WA w x) (t : Tn No w w') : WA w' x := ⟨h.args.no t, h.ok, h.aok, h.len⟩
/-- a function that can be read -/
structure FA (w : World) (f : Wf) : Prop where
  code : LD 11 eW w f.cv f.code
  each : ∀ x ∈ f.code, WA w x
  ok : i64ok f.params ∧ i64ok f.regs ∧ i64ok f.slots
  len : f.code.length ≤ 1073741824
theorem FA.no {w w' : World} {f : Wf} (h : FA w f) (t : Tn No w w') : FA w' f := ⟨h.code.no t, fun x hx => (h.each x hx).no t, h.ok, h.len⟩
/-- a program that can be read -/
structure PgA (w : World) (p : Wp) : Prop where
  funs : LD 5 eF w p.fv p.funs
  each : ∀ f ∈ p.funs, FA w f
  data : LD 1 eB w p.dv p.data
  dok : ∀ b ∈ p.data, 0 ≤ b ∧ b ≤ 255
  ok : i64ok p.zero
  len : p.funs.length ≤ 1073741824
  dlen : p.data.length ≤ 1073741824
theorem PgA.no {w w' : World} {p : Wp} (h : PgA w p) (t : Tn No w w') : PgA w' p := ⟨h.funs.no t, fun f hf => (h.each f hf).no t, h.data.no t, h.dok, h.ok, h.len, h.dlen⟩

/-- does a kind name a field? -/
def bit (m k : Int) : Bool := fieldsF k / m % 2 == 1
/-- what an instruction does with registers (0 reads, 1 sets) and slots (2 reads, 3 sets) -/
def usesF (x : Wd) : List (Int × Int) :=
  (if bit 2 x.k then [(0, x.a)] else []) ++ (if bit 4 x.k then [(0, x.b)] else []) ++ (if bit 32 x.k then x.args.map (fun y => ((0 : Int), y)) else []) ++
    (if x.k = 31 then [(2, x.imm)] else if x.k = 32 then [(3, x.imm)] else []) ++ (if bit 1 x.k then [(1, x.d)] else [])
/-- all registers that it names are the function's -/
def placeF (regs : Int) (p : Int × Int) : Bool := if p.1 = 0 ∨ p.1 = 1 then decide (0 ≤ p.2) && decide (p.2 ≤ regs - 1) else true
def placesF (regs : Int) (x : Wd) : Bool := (usesF x).all (placeF regs)
/-- its Imm -/
def immF (most slots : Int) (x : Wd) : Bool :=
  if x.k = 17 ∨ x.k = 18 then decide (-2147483648 ≤ x.imm) && decide (x.imm ≤ 2147483647)
  else if x.k = 27 then decide (0 ≤ x.imm) && decide (x.imm ≤ most)
  else if x.k = 31 ∨ x.k = 32 then decide (0 ≤ x.imm) && decide (x.imm ≤ slots - 1)
  else true
/-- what it calls -/
def callF (fs : List Wf) (x : Wd) : Bool :=
  if bit 16 x.k && !(decide (0 ≤ x.f) && decide (x.f ≤ (fs.length : Int) - 1)) then false
  else if x.k = 22 ∨ x.k = 24 then decide ((x.args.length : Int) = ((fs[x.f.toNat]?).map Wf.params).getD 0)
  else if x.k = 23 ∨ x.k = 25 then decide (x.args.length ≤ 4)
  else if x.k = 30 then decide (x.args.length ≤ 3)
  else true
/-- the labels' places; none, if one is there twice -/
def labsF : List Wd → Nat → (Int → Option Nat) → Option (Int → Option Nat)
  | [], _, m => some m
  | x :: r, i, m => if x.k = 19 then (if (m x.l).isSome then none else labsF r (i + 1) (updI m x.l (some i))) else labsF r (i + 1) m
def wdInF (fs : List Wf) (most : Int) (f : Wf) (m : Int → Option Nat) (x : Wd) : Bool :=
  decide (fieldsF x.k ≠ 0) && placesF f.regs x && immF most f.slots x && callF fs x && howF x.k x.cond x.real x.size && ((m x.l).isSome || !bit 8 x.k)
def lastF (l : List Wd) : Bool := match l.getLast? with | some x => leavesF x.k | none => false
def codeF (fs : List Wf) (most : Int) (f : Wf) : Bool :=
  lastF f.code && (match labsF f.code 0 (fun _ => none) with | none => false | some m => f.code.all (wdInF fs most f m))
def headF (f : Wf) : Bool := decide (0 ≤ f.params) && decide (f.params ≤ 4) && decide (f.params ≤ f.regs) && decide (f.regs ≤ 65536) && decide (0 ≤ f.slots) && decide (f.slots ≤ 1048576)
def linesF (fs : List Wf) : Bool := decide ((fs.map (fun f => f.code.length)).sum ≤ 4194304)
def dataF (p : Wp) : Bool := decide (0 ≤ p.zero) && decide (p.zero ≤ 268435456 - (p.data.length : Int))
def firstF (fs : List Wf) : Bool := match fs with | f :: _ => decide (f.params = 0) | [] => false
def mayP (p : Wp) : Bool := firstF p.funs && dataF p && linesF p.funs && p.funs.all (fun f => headF f && codeF p.funs ((p.data.length : Int) + p.zero) f)
end Go.Proofs.YtoidddfpekbliaaGreat
namespace Go.Proofs.YtoidddfpekbliaaGreat
set_option linter.unusedSimpArgs false
set_option linter.unusedVariables false
open Go.RowKit
attribute [local go_sem ↓] Go.wp_at_zero Go.wp_at_succ

theorem zeroCells_u8 (n : Nat) : Builtin.zeroCells #[Value.int .u8 0] n = (bc (List.replicate n 0)).toArray := by
  apply Array.ext
  · simp [Builtin.zeroCells, bc]
  · intro i h1 h2
    simp [Builtin.zeroCells, bc, Nat.mod_one]

/-- a row's cells from a place on are written -/
theorem br_over {w : World} {g cap : Nat} {l : List UInt8} (h : BR w (.slice (some ⟨g, 0, none⟩) l.length cap) l) (pl : Nat) (t : List UInt8) (m : Nat) (hm : m = max l.length (pl + t.length)) (hp : pl ≤ l.length) (hc : pl + t.length ≤ cap) :
    BR (w.setCells g pl (bc t)) (.slice (some ⟨g, 0, none⟩) m cap) (l.take pl ++ t ++ l.drop (pl + t.length)) := by
  obtain ⟨hrw, hat⟩ := h
  rcases hrw with ⟨e, _⟩ | ⟨g2, cap2, e, hg, h1, h2, h3⟩
  · cases e
  · simp only [Value.slice.injEq, Option.some.injEq, Addr.mk.injEq, and_true, true_and] at e
    obtain ⟨rfl, rfl⟩ := e
    have hlen : (l.take pl ++ t ++ l.drop (pl + t.length)).length = m := by simp; omega
    have hin : ∀ j, j < (bc t).length → (w.cell? ⟨g, pl + j, none⟩).isSome = true := fun j hj => (h3 _ (by rw [bc_length] at hj; omega)).1
    have hi2 := World.cell?_setCells_in g (bc t) pl w hin
    have ho2 : ∀ j, j < pl ∨ pl + t.length ≤ j → (w.setCells g pl (bc t)).cell? ⟨g, j, none⟩ = w.cell? ⟨g, j, none⟩ := fun j hj => World.cell?_setCells_out g (bc t) pl w _ (fun _ _ => by rw [bc_length]; exact hj)
    have hrw2 : RW (w.setCells g pl (bc t)) 1 (.slice (some ⟨g, 0, none⟩) m cap) m := by
      refine .inr ⟨g, cap, rfl, by rw [(setCells_rest g (bc t) pl w).2.2.2]; exact hg, by omega, h2, fun j hj => ?_⟩
      rw [World.frozen?_setCells]
      refine ⟨?_, (h3 j hj).2⟩
      by_cases hjl : pl ≤ j ∧ j < pl + t.length
      · obtain ⟨q, rfl⟩ : ∃ q, j = pl + q := ⟨j - pl, by omega⟩
        rw [hi2 q (by rw [bc_length]; omega)]
        rfl
      · rw [ho2 j (by omega)]
        exact (h3 j hj).1
    refine ⟨by rw [hlen]; exact hrw2, fun j hj => ?_⟩
    · rw [hlen] at hj
      show (w.setCells g pl (bc t)).cell? ⟨g, j, none⟩ = _
      by_cases hj1 : j < pl
      · rw [ho2 j (.inl hj1)]
        have e : (l.take pl ++ t ++ l.drop (pl + t.length))[j] = l[j]'(by omega) := by
          rw [List.getElem_append_left (by simp; omega), List.getElem_append_left (by simp; omega), List.getElem_take]
        rw [e]
        exact hat j (by omega)
      · by_cases hj2 : j < pl + t.length
        · obtain ⟨q, rfl⟩ : ∃ q, j = pl + q := ⟨j - pl, by omega⟩
          have e : (l.take pl ++ t ++ l.drop (pl + t.length))[pl + q] = t[q]'(by omega) := by
            rw [List.getElem_append_left (by simp; omega), List.getElem_append_right (by simp; omega)]
            congr 1
            simp
            omega
          rw [hi2 q (by rw [bc_length]; omega), e]
          simp [bc]
        · rw [ho2 j (by omega)]
          have e : (l.take pl ++ t ++ l.drop (pl + t.length))[j] = l[j]'(by omega) := by
            rw [List.getElem_append_right (by simp; omega), List.getElem_drop]
            congr 1
            simp
            omega
          rw [e]
          exact hat j (by omega)

/-- 'append(v, make([]byte, n)...)' -/
theorem br_zeros2 {w : World} {v : Value} {l : List UInt8} (h : BR w v l) (n : Nat) (h0 : 0 < n) (hb : l.length + n ≤ 70368744177664) :
    ∃ v' w', (Builtin.append_ #[23, 3] 23 #[v, .int .i64 (n : Int)]).run Tryz.prog w = .ok v' w' ∧ BR w' v' (l ++ List.replicate n 0) ∧ w.grownBy w' v.ownBlock ∧ Goes w w' v v' := by
  obtain ⟨i, hi, hz0, hz1, hz2⟩ := info_parts u8_info
  have grow : ∀ (base : Option Addr) (cap : Nat), cap < l.length + n → (Builtin.firstCells i.size l.length (.slice base l.length cap)).run Tryz.prog w.drew = .ok (bc l).toArray w.drew → ∀ row,
      ∃ v' w', (Builtin.append_ #[23, 3] 23 #[.slice base l.length cap, .int .i64 (n : Int)]).run Tryz.prog w = .ok v' w' ∧ BR w' v' (l ++ List.replicate n 0) ∧ w.grownBy w' row ∧ v'.ownBlock = some w.heap.size := by
    intro base cap hc hold row
    have hfit : Builtin.nextslicecap (l.length + n) cap * i.bytes ≤ 281474976710656 := growslice_fits hc (by rw [hz2]; omega)
    have hr := Lib.run_append_grow_zeros (P := Tryz.prog) w 23 3 23 5 i (.int .u8 0) .i64 .i64 Tryz.underlying23 Tryz.underlying3 hi hz0 base l.length cap (bc l) hold n h0 (by omega) hc (by omega) (by rw [hz2]; omega) hfit
    have hge := grownCap_ge w (l.length + n) cap 5
    have hcm := grownCap_le_maxLen w (l.length + n) cap 5 (by unfold maxLen; omega)
    have e1 : (Value.int .u8 0).cells = #[Value.int .u8 0] := rfl
    rw [e1, zeroCells_u8 n] at hr
    obtain ⟨C, hC⟩ : ∃ C, (bc l).toArray ++ (bc (List.replicate n 0)).toArray ++ Builtin.zeroCells #[Value.int .u8 0] (grownCap w (l.length + n) cap 5 - (l.length + n)) = C := ⟨_, rfl⟩
    rw [hC] at hr
    have hsz : C.size = grownCap w (l.length + n) cap 5 := by
      rw [← hC]
      simp only [Array.size_append, List.size_toArray, bc_length, size_zeroCells, List.length_replicate]
      simp
      omega
    have hCj : ∀ j (hj : j < (l ++ List.replicate n (0 : UInt8)).length), C[j]? = some (.int .u8 ((l ++ List.replicate n (0 : UInt8))[j].toNat : Int)) := fun j hj => by
      have e2 : (bc l).toArray ++ (bc (List.replicate n 0)).toArray = (bc (l ++ List.replicate n 0)).toArray := by rw [bc_append]; simp
      rw [← hC, e2, Array.getElem?_append_left (by simpa [bc] using hj), List.getElem?_toArray, bc, List.getElem?_map, List.getElem?_eq_getElem hj]
      rfl
    have hnew : ∀ j, (w.drew.alloc (.cells C 5)).cell? ⟨w.heap.size, j, none⟩ = C[j]? := fun j => World.cell?_alloc_mark w.drew _ _ _ j
    have hh : (w.drew.alloc (.cells C 5)).heap[w.heap.size]? = some (.cells C 5 (0, 0)) := heap_alloc_new w.drew (.cells C 5)
    refine ⟨_, _, hr, ⟨?_, fun j hj => (hnew j).trans (hCj j hj)⟩, ⟨rfl, rfl, rfl, by simp, fun k hk _ => Below.heap_alloc w.drew _ k hk⟩, rfl⟩
    rw [List.length_append, List.length_replicate]
    refine .inr ⟨w.heap.size, _, rfl, by simp, hge, hcm, fun j hj => ?_⟩
    rw [hnew]
    refine ⟨?_, ?_⟩
    · rw [Array.getElem?_eq_getElem (by rw [hsz]; omega)]; rfl
    · simp only [World.frozen?, hh]
      simp
  have hwr : IntKind.i64.wrap (n : Int) = (n : Int) := by rw [IntKind.wrap_i64]; omega
  obtain ⟨hrw, hat⟩ := h
  rcases hrw with ⟨rfl, e⟩ | ⟨g, cap, rfl, hg, h1, h2, h3⟩
  · obtain rfl := List.length_eq_zero_iff.1 e
    obtain ⟨v', w', hr, hbr, hgr, hown⟩ := grow none 0 (by simp; omega) (by simp [Builtin.firstCells, bc]) none
    exact ⟨v', w', hr, hbr, hgr, .inr ⟨hown, hgr⟩⟩
  · have hbr : BR w (.slice (some ⟨g, 0, none⟩) l.length cap) l := ⟨.inr ⟨g, cap, rfl, hg, h1, h2, h3⟩, hat⟩
    by_cases hroom : l.length + n ≤ cap
    · have hst := run_storeCells_cells (P := Tryz.prog) g l.length (bc (List.replicate n 0)) 0 w (fun j hj => by rw [bc_length, List.length_replicate] at hj; exact (h3 _ (by omega)).1) (fun j hj => by rw [bc_length, List.length_replicate] at hj; exact (h3 _ (by omega)).2) (bc_one _)
      have hr : (Builtin.append_ #[23, 3] 23 #[.slice (some ⟨g, 0, none⟩) l.length cap, .int .i64 (n : Int)]).run Tryz.prog w = .ok (.slice (some ⟨g, 0, none⟩) (l.length + n) cap) (w.setCells g l.length (bc (List.replicate n 0))) := by
        have hneg : ¬ ((n : Int) < 0) := by omega
        have h48i : ¬ (281474976710656 < (n : Int) * ((1 : Nat) : Int)) := by omega
        have hns : ¬ (n = 0) := by omega
        have hz : Builtin.zeroCells (Value.int .u8 0).cells n = (bc (List.replicate n 0)).toArray := zeroCells_u8 n
        have hst' : (storeCells ⟨g, l.length, none⟩ (bc (List.replicate n 0)) 0).run Tryz.prog w = .ok () (w.setCells g l.length (bc (List.replicate n 0))) := hst
        simp [Builtin.append_, run_underlying Tryz.underlying23, run_underlying Tryz.underlying3, sizeOf, typeInfo, zeroValue, hi, hz0, hz1, hz2, asInt, asIntOf, hwr, hneg, h48i, hns, hroom, hz, Addr.add_lit, hst']
        omega
      refine ⟨_, _, hr, ?_, setCells_grown g _ _ w, .inl ⟨_, _, _, cap, rfl, rfl, by omega⟩⟩
      have := br_over hbr l.length (List.replicate n 0) (l.length + n) (by simp) (Nat.le_refl _) (by simpa using hroom)
      rw [List.length_replicate, List.drop_of_length_le (by omega), List.append_nil, List.take_length] at this
      exact this
    · obtain ⟨v', w', hr, hbr, hgr, hown⟩ := grow (some ⟨g, 0, none⟩) cap (by omega) (by
        refine run_firstCells_some (P := Tryz.prog) w.drew i.size l.length ⟨g, 0, none⟩ l.length cap (bc l) (by rw [hz1, bc_length, Nat.mul_one]) (fun j u hu => ?_)
        rw [addr_add]
        have hj : j < l.length := by
          have := (List.getElem?_eq_some_iff.1 hu).1
          simpa [bc] using this
        have := hat j hj
        rw [bc, List.getElem?_map, List.getElem?_eq_getElem hj] at hu
        rw [← Option.some.inj hu]
        exact this) none
      exact ⟨v', w', hr, hbr, ⟨hgr.os, hgr.tape, hgr.output, hgr.size, fun k hk _ => hgr.block k hk (by simp)⟩, .inr ⟨hown, hgr⟩⟩
end Go.Proofs.YtoidddfpekbliaaGreat
namespace Go.Proofs.YtoidddfpekbliaaGreat
set_option linter.unusedSimpArgs false
set_option linter.unusedVariables false
open Go.RowKit
attribute [local go_sem ↓] Go.wp_at_zero Go.wp_at_succ

/-- append, at the operation -/
theorem wpList_app (w : World) {ops : Array Oper} {rest : List Oper} {o : Oper} {a : Act} {Q : Exit → Act → World → Prop} (hg : o.guard = none) (s x : Operand) (t tx : TypeId) (ho : o.op = .call { callee := .builtin .append, args := #[s, x], argTypes := #[t, tx] })
    (v xv : Value) (hs : a.eval s = v) (hx : a.eval x = xv) (v' : Value) (w' : World) (hrun : (Builtin.append_ #[t, tx] o.type #[v, xv]).run Tryz.prog w = .ok v' w')
    (hK : wpList Tryz.prog ops Q rest (a.put o.dst v') w') : wpList Tryz.prog ops Q (o :: rest) a w := by
  refine wpList_plain hg fun K' hK' => ?_
  unfold Oper.wp
  simp [execOp, ho, resolve, invoke, builtin, hs, hx, hrun, Result.andThen]
  exact hK' _ _ hK

/-- three cells of a descriptor are written -/
def set3 (w : World) (p i : Nat) (d : De) : World := ((w.setCell ⟨p, 3 + i * 3, none⟩ (.int .i64 d.kind)).setCell ⟨p, 3 + i * 3 + 1, none⟩ (.string d.name)).setCell ⟨p, 3 + i * 3 + 2, none⟩ (.int .i64 (d.place : Int))
def St.setDe (S : St) (i : Nat) (d : De) : St := { S with ds := upd S.ds i d }

theorem PX.setDe {w : World} {p : Nat} {L : Nat → Option Lab} {N : Nat} {S : St} {c : Nat → Value} {mo : Option Nat} {iv tv : Value} {vs : Nat → Value} (h : PX w p L N S c mo iv tv vs) (i : Nat) (hi : i < 19) (d : De) (hd : d.place ≤ N) (hn : d.name.size ≤ 255) :
    ∃ c', PX (set3 w p i d) p L N (S.setDe i d) c' mo iv tv vs := by
  have hk : ∀ k, L k ≠ some .st → (set3 w p i d).heap[k]? = w.heap[k]? := fun k hk => by
    have : k ≠ p := by rintro rfl; exact hk h.labs
    unfold set3
    rw [Below.heap_setCell _ _ _ _ this, Below.heap_setCell _ _ _ _ this, Below.heap_setCell _ _ _ _ this]
  have hsz : (set3 w p i d).heap.size = w.heap.size := by simp [set3]
  refine ⟨upd (upd (upd c (3 + i * 3) (.int .i64 d.kind)) (3 + i * 3 + 1) (.string d.name)) (3 + i * 3 + 2) (.int .i64 (d.place : Int)), ?_⟩
  refine { sc := ((h.sc.set _ (by omega) _).set _ (by omega) _).set _ (by omega) _, c0 := ?_, c1 := ?_, c2 := ?_, c60 := ?_, cd := fun j hj => ?_, pl := fun j hj => ?_, labs := h.labs, lt := fun k hk => by rw [hsz]; exact h.lt k hk, fm := h.fm.kept2 (fun k hl => hk k ?_), inp := h.inp.kept (fun g hg => hk g (by rw [h.labi g hg]; simp)), labi := h.labi, rd := h.rd, ew := h.ew.kept2 (fun k hl => hk k ?_) }
  · rw [upd_other _ _ (by omega), upd_other _ _ (by omega), upd_other _ _ (by omega)]; exact h.c0
  · rw [upd_other _ _ (by omega), upd_other _ _ (by omega), upd_other _ _ (by omega)]; exact h.c1
  · rw [upd_other _ _ (by omega), upd_other _ _ (by omega), upd_other _ _ (by omega)]; exact h.c2
  · rw [upd_other _ _ (by omega), upd_other _ _ (by omega), upd_other _ _ (by omega)]; exact h.c60
  · by_cases e : j = i
    · subst e
      simp only [St.setDe, upd_same]
      refine ⟨?_, ?_, trivial⟩
      · rw [upd_other _ _ (by omega), upd_other _ _ (by omega), upd_same]
      · rw [upd_other _ _ (by omega), upd_same]
    · simp only [St.setDe, upd_other _ _ e]
      have := h.cd j hj
      refine ⟨?_, ?_, ?_⟩
      · rw [upd_other _ _ (by omega), upd_other _ _ (by omega), upd_other _ _ (by omega)]; exact this.1
      · rw [upd_other _ _ (by omega), upd_other _ _ (by omega), upd_other _ _ (by omega)]; exact this.2.1
      · rw [upd_other _ _ (by omega), upd_other _ _ (by omega), upd_other _ _ (by omega)]; exact this.2.2
  · by_cases e : j = i
    · subst e; simp only [St.setDe, upd_same]; exact ⟨hd, hn⟩
    · simp only [St.setDe, upd_other _ _ e]; exact h.pl j hj
  · rcases hl with hl | ⟨n, hl⟩ <;> (rw [hl]; simp)
  · rcases hl with hl | ⟨n, hl⟩ <;> (rw [hl]; simp)
theorem set3_tn {w a : World} {p : Nat} {L : Nat → Option Lab} (t : Tn (fun k => L k ≠ none) a w) (hp : L p = some .st) (i : Nat) (d : De) : Tn (fun k => L k ≠ none) a (set3 w p i d) := ((t.own hp _ _).own hp _ _).own hp _ _

theorem fld0 (a b c : Value) (w : World) : (Instr.field 92 (.agg #[a, b, c]) 0).run Tryz.prog w = .ok a w := by kernel_rfl

/-! ### SysClose -/
def St.close (S : St) (fd : Int) : St := if (S.at fd).kind = 0 then S else S.setDe fd.toNat noDe
def closeRes (S : St) (fd : Int) : Int := if (S.at fd).kind = 0 then -9 else 0

set_option maxHeartbeats 1000000 in
set_option maxRecDepth 100000 in
theorem close_raw (p : Nat) (L : Nat → Option Lab) (N : Nat) (S : St) (fd : Int) (w : World) (h : PW w p L N S) (h0 : -9223372036854775808 ≤ fd) (h1 : fd ≤ 9223372036854775807) :
    Calls Tryz.prog 152 #[.pointer (some ⟨p, 0, none⟩), .int .i64 fd] w fun e w' => e = .returned (.int .i64 (closeRes S fd)) ∧ Lft w p L w' N (S.close fd) := by
  have hat := fun u t => at_raw p L N S fd u (h.no t) h0 h1
  have HAT : Hid (∀ u, Tn No w u → Calls Tryz.prog 165 #[.pointer (some ⟨p, 0, none⟩), .int .i64 fd] u fun e w' => e = .returned (dv (S.at fd)) ∧ Tn No u w') := hat
  have HP := hid h
  clear hat
  have hfl := fld0
  by_cases hk : (S.at fd).kind = 0
  · have hd : ((S.at fd).kind == 0) = true := by simpa using hk
    have HK := hid hk
    clear hk h
    unfold dv at HAT
    go_enter Tryz.func152, Tryz.ntmps152
    go_wp2_with (go_at_call 165; refine (HAT.out _ (by repeat (first | exact Tn.refl _ _ | apply Tn.drew | apply Tn.drewN | apply Tn.alloc | (refine Tn.then ?_ (by assumption)) | (refine Tn.thenNo ?_ (by assumption))))).mono ?_; rintro e w1 ⟨rfl, ht1⟩)
    go_ret
    refine ⟨ret_int ?_, ?_⟩
    · unfold closeRes; rw [if_pos HK.out]
    · unfold St.close; rw [if_pos HK.out]; exact HP.out.same ht1
  · have hd : ((S.at fd).kind == 0) = false := by simpa using hk
    have hr : 0 ≤ fd ∧ fd < 19 := by
      rcases Classical.em (0 ≤ fd ∧ fd < 19) with h | h
      · exact h
      · exfalso; apply hk; unfold St.at; rw [if_neg h]; rfl
    have HK := hid hk
    obtain ⟨hr0, hr1⟩ := hr
    obtain ⟨i, rfl⟩ : ∃ i : Nat, fd = (i : Int) := ⟨fd.toNat, by omega⟩
    have hi : i < 19 := by omega
    clear hk h h0 h1
    unfold dv at HAT
    have hcells : ∀ u, Tn No w u → u.cell? ⟨p, 3 + i * 3, none⟩ = some (.int .i64 (S.ds i).kind) ∧ u.cell? ⟨p, 3 + i * 3 + 1, none⟩ = some (.string (S.ds i).name) ∧ u.cell? ⟨p, 3 + i * 3 + 2, none⟩ = some (.int .i64 ((S.ds i).place : Int)) ∧ (∀ j, u.frozen? ⟨p, j, none⟩ = false) ∧ p < u.heap.size := fun u t => by
      obtain ⟨c, mo, iv, tv, vs, hx⟩ := HP.out
      have hu := hx.no t
      obtain ⟨a, b, c⟩ := hu.de i hi
      exact ⟨a, b, c, hu.sc.froz, hu.sc.lt⟩
    have HC := hid hcells
    clear hcells
    go_enter Tryz.func152, Tryz.ntmps152
    go_wp2_with (go_at_call 165; refine (HAT.out _ (by repeat (first | exact Tn.refl _ _ | apply Tn.drew | apply Tn.drewN | apply Tn.alloc | (refine Tn.then ?_ (by assumption)) | (refine Tn.thenNo ?_ (by assumption))))).mono ?_; rintro e w1 ⟨rfl, ht1⟩; obtain ⟨c0, c1, c2, cf, cl⟩ := HC.out w1 (by repeat (first | exact Tn.refl _ _ | apply Tn.drew | apply Tn.drewN | apply Tn.alloc | (refine Tn.then ?_ (by assumption)) | (refine Tn.thenNo ?_ (by assumption)))))
    go_ret
    refine ⟨ret_int ?_, ?_⟩
    · unfold closeRes; rw [if_neg HK.out]
    · unfold St.close; rw [if_neg HK.out, Int.toNat_natCast]
      obtain ⟨c, mo, iv, tv, vs, hx⟩ := HP.out
      obtain ⟨c', hc'⟩ := (hx.no ht1).setDe i hi noDe (Nat.zero_le _) (by decide)
      exact ⟨L, ⟨_, _, _, _, _, hc'⟩, set3_tn ht1.any hx.labs i noDe, fun _ _ e => e⟩

/-! ### an event goes on the trace -/
theorem ev_info : (Tryz.prog.info? 141).map (fun i => (i.zero, i.size, i.bytes)) = some (some (.agg #[.int .i64 0, .string ⟨#[]⟩, .slice none 0 0]), 3, 48) := by kernel_rfl

def St.addEv (S : St) (e : Ev) : St := { S with tr := S.tr ++ [e] }

theorem PX.addEv {w : World} {p : Nat} {L : Nat → Option Lab} {N : Nat} {S : St} {c : Nat → Value} {mo : Option Nat} {iv tv : Value} {vs : Nat → Value} (h : PX w p L N S c mo iv tv vs) (hN : N + 1 ≤ 1099511627776) (k : Int) (s : ByteArray) :
    ∃ v' w', (Builtin.append_ #[94, 94] 94 #[tv, .slice (some ⟨w.heap.size, 0, none⟩) 1 1]).run Tryz.prog (w.alloc (.cells #[.int .i64 k, .string s, .slice none 0 0] 141)) = .ok v' w' ∧
      w'.cell? ⟨p, 60, none⟩ = some tv ∧ w'.frozen? ⟨p, 60, none⟩ = false ∧ p < w'.heap.size ∧
      ∃ L', PX (w'.setCell ⟨p, 60, none⟩ v') p L' (N + 1) (S.addEv ⟨k, s, []⟩) (upd c 60 v') mo iv v' (upd vs S.tr.length nilV) ∧ Tn (fun k => L k ≠ none) w (w'.setCell ⟨p, 60, none⟩ v') ∧ (∀ k, k < w.heap.size → L k = none → L' k = none) := by
  obtain ⟨i, hi, hz0, hz1, hz2⟩ := info_parts ev_info
  have hlen := h.ew.len
  have t1 : Tn No w (w.alloc (.cells #[.int .i64 k, .string s, .slice none 0 0] 141)) := (by repeat (first | exact Tn.refl _ _ | apply Tn.drew | apply Tn.drewN | apply Tn.alloc | (refine Tn.then ?_ (by assumption)) | (refine Tn.thenNo ?_ (by assumption))))
  have hsz1 : (w.alloc (.cells #[.int .i64 k, .string s, .slice none 0 0] 141)).heap.size = w.heap.size + 1 := by simp
  have hnew : ∀ j, (w.alloc (.cells #[.int .i64 k, .string s, .slice none 0 0] 141)).cell? ⟨w.heap.size, j, none⟩ = (#[.int .i64 k, .string s, .slice none 0 0] : Array Value)[j]? := fun j => World.cell?_alloc_mark w _ _ _ j
  have hx1 := h.no t1
  have hsrc : Src Tryz.prog 3 94 (.slice (some ⟨w.heap.size, 0, none⟩) 1 1) 1 [.int .i64 k, .string s, .slice none 0 0] (w.alloc (.cells #[.int .i64 k, .string s, .slice none 0 0] 141)) :=
    Src.ofSlice _ Tryz.underlying94 _ 1 1 _ rfl (fun j u hu => by rw [addr_add, hnew]; simpa using hu) (fun u hu => by simp at hu; rcases hu with rfl | rfl | rfl <;> rfl)
  generalize w.alloc (.cells #[.int .i64 k, .string s, .slice none 0 0] 141) = w1 at *
  obtain ⟨v', w', hr, hrw, ho, hn, hg, hown⟩ := rw_append 94 141 i _ 3 48 Tryz.underlying94 hi hz0 hz1 hz2 rfl hx1.ew.rw hsrc (by unfold maxLen; omega) (by omega) (by omega)
  obtain ⟨g', cap', hv', hg', _⟩ := hrw.pos (by omega)
  have hob : v'.ownBlock = some g' := by rw [hv']; rfl
  have hg2 : L g' = some .tr ∨ g' = w1.heap.size := by
    rw [hob] at hown
    rcases hown with e | e
    · left; exact h.ew.lab g' e.symm
    · right; exact Option.some.inj e
  have hk : ∀ k, L k ≠ none → L k ≠ some .tr → w'.heap[k]? = w1.heap[k]? := fun k h1 h2 => hg.block k (hx1.lt k h1) (fun e => h2 (h.ew.lab k e.symm))
  have hne : g' ≠ p := by
    rintro rfl
    rcases hg2 with e | e
    · rw [h.labs] at e; cases e
    · have := hx1.sc.lt; omega
  have hsc := hx1.sc.kept (hk p (by rw [h.labs]; simp) (by rw [h.labs]; simp))
  have up : ∀ {k : Nat} {x : Lab}, L k = some x → upd L g' (some .tr) k = some x := fun {k x} e => by
    by_cases ek : k = g'
    · subst ek
      rw [upd_same]
      rcases hg2 with e' | e'
      · rw [e'] at e; exact e
      · have := hx1.lt k (by rw [e]; simp); omega
    · rw [upd_other _ _ ek]; exact e
  have hks : ∀ k, k ≠ p → (w'.setCell ⟨p, 60, none⟩ v').heap[k]? = w'.heap[k]? := fun k hk => Below.heap_setCell _ _ _ _ hk
  have hlp : ∀ k, L k ≠ some .st → k ≠ p := fun k h1 e => h1 (by rw [e]; exact h.labs)
  have t2 : Tn (fun k => L k ≠ none) w w' := (t1.any).grown hg (fun i e _ => by rw [h.ew.lab i e]; simp)
  refine ⟨v', w', hr, (hsc.cell 60 (by omega)).trans (by rw [h.c60]), hsc.froz 60, hsc.lt, upd L g' (some .tr), ?_, t2.own h.labs _ _, fun k hk e => ?_⟩
  · have hm := hx1.mono (Nat.le_succ N)
    refine { sc := hsc.set 60 (by omega) v', c0 := ?_, c1 := ?_, c2 := ?_, c60 := upd_same _ _ _, cd := fun i hi => ?_, pl := hm.pl, labs := up h.labs, lt := fun k hk => ?_, fm := ?_, inp := ?_, labi := fun g hg => up (h.labi g hg), rd := h.rd, ew := ?_ }
    · rw [upd_other _ _ (by omega)]; exact h.c0
    · rw [upd_other _ _ (by omega)]; exact h.c1
    · rw [upd_other _ _ (by omega)]; exact h.c2
    · rw [upd_other _ _ (by omega), upd_other _ _ (by omega), upd_other _ _ (by omega)]; exact h.cd i hi
    · have e : (w'.setCell ⟨p, 60, none⟩ v').heap.size = w'.heap.size := by simp
      rw [e]
      by_cases ek : k = g'
      · subst ek; exact hg'
      · rw [upd_other _ _ ek] at hk; exact Nat.lt_of_lt_of_le (hx1.lt k hk) hg.size
    · have := hm.fm.kept2 (w' := w'.setCell ⟨p, 60, none⟩ v') (fun k hl => by
        rcases hl with hl | ⟨n, hl⟩ <;> exact (hks k (hlp k (by rw [hl]; simp))).trans (hk k (by rw [hl]; simp) (by rw [hl]; simp)))
      rcases this with h | ⟨b, n, D, e, hn, hb, hown, hf⟩
      · exact .inl h
      · exact .inr ⟨b, n, D, e, hn, up hb, hown, fun k => ⟨(hf k).1, fun l hl => by
          obtain ⟨v, hv, hbr, hlab, hlen⟩ := (hf k).2 l hl
          exact ⟨v, hv, hbr, fun g hg => up (hlab g hg), hlen⟩⟩⟩
    · exact hx1.inp.kept (fun g hg => (hks g (hlp g (by rw [h.labi g hg]; simp))).trans (hk g (by rw [h.labi g hg]; simp) (by rw [h.labi g hg]; simp)))
    · have hkv : ∀ g, v'.ownBlock = some g → (w'.setCell ⟨p, 60, none⟩ v').heap[g]? = w'.heap[g]? := fun g hg => hks g (by rw [hob] at hg; cases hg; exact hne)
      refine ⟨?_, fun g hg => ?_, ?_, fun j e he => ?_⟩
      · have := hrw.kept hkv
        simpa [St.addEv] using this
      · rw [hob] at hg; cases hg; exact upd_same _ _ _
      · simp [St.addEv]; omega
      · have hv := fun j => vc_kept hkv j
        by_cases hj : j < S.tr.length
        · have he' : S.tr[j]? = some e := by simpa [St.addEv, List.getElem?_append_left hj] using he
          obtain ⟨a, b, c, d, f, g⟩ := hm.ew.ev j e he'
          refine ⟨by rw [hv, ho _ (by omega)]; exact a, by rw [hv, ho _ (by omega)]; exact b, ?_, ?_, fun g hg => ?_, g⟩
          · rw [hv, ho _ (by omega), upd_other _ _ (by omega)]; exact c
          · rw [upd_other _ _ (by omega)]
            exact d.kept (fun g hg => (hks g (hlp g (by rw [f g hg]; simp))).trans (hk g (by rw [f g hg]; simp) (by rw [f g hg]; simp)))
          · rw [upd_other _ _ (by omega)] at hg
            exact up (f g hg)
        · have hj2 : j = S.tr.length := by
            have := (List.getElem?_eq_some_iff.1 he).1
            simp [St.addEv] at this
            omega
          subst hj2
          have he' : e = ⟨k, s, []⟩ := by simpa [St.addEv] using he.symm
          subst he'
          refine ⟨?_, ?_, ?_, ?_, fun g hg => ?_, by simp⟩
          · rw [hv, show 3 * S.tr.length = S.tr.length * 3 + 0 by omega, hn 0 (by simp)]; rfl
          · rw [hv, show 3 * S.tr.length + 1 = S.tr.length * 3 + 1 by omega, hn 1 (by simp)]; rfl
          · rw [hv, show 3 * S.tr.length + 2 = S.tr.length * 3 + 2 by omega, hn 2 (by simp), upd_same]; rfl
          · rw [upd_same]; exact BR.nil _
          · rw [upd_same] at hg; cases hg
  · rw [upd_other _ _ (by
      rintro rfl
      rcases hg2 with e' | e'
      · rw [e] at e'; cases e'
      · omega)]
    exact e
end Go.Proofs.YtoidddfpekbliaaGreat
namespace Go.Proofs.YtoidddfpekbliaaGreat
set_option linter.unusedSimpArgs false
set_option linter.unusedVariables false
open Go.RowKit
attribute [local go_sem ↓] Go.wp_at_zero Go.wp_at_succ

def layB (l : List UInt8) (pl : Nat) (t : List UInt8) : List UInt8 :=
  if t = [] then l else (l ++ List.replicate (pl - l.length) 0).take pl ++ t ++ (l ++ List.replicate (pl - l.length) 0).drop (pl + t.length)

theorem copy_run {w : World} {a : Option Addr} {cap : Nat} {l : List UInt8} (ty : TypeId) (h : BR w (.slice a l.length cap) l) (pl r : Nat) (hr : l.length = pl + r) (ad : Option Addr) (q : Nat) (had : 0 < r → ∃ g, a = some ⟨g, 0, none⟩ ∧ ad = some ⟨g, pl, none⟩) (s : ByteArray) :
    ∃ w', (Builtin.copy_ #[23, 9] ty #[.slice ad r q, .string s]).run Tryz.prog w = .ok (.int .i64 ((min s.size r : Nat) : Int)) w' ∧
      BR w' (.slice a l.length cap) (l.take pl ++ s.data.toList.take (min s.size r) ++ l.drop (pl + min s.size r)) ∧ w.grownBy w' (Value.ownBlock (.slice a l.length cap)) := by
  have hsl : s.data.toList.length = s.size := by simp
  have hlen : (l.take pl ++ s.data.toList.take (min s.size r) ++ l.drop (pl + min s.size r)).length = l.length := by simp; omega
  have hcells : ∀ n, n ≤ s.size → (Builtin.firstCells 1 n (.string s)).run Tryz.prog w = .ok (bc (s.data.toList.take n)).toArray w := fun n hn => by
    simp [Builtin.firstCells, bc]
    apply Array.ext'
    simp
  have hsz : (sizeOf 5).run Tryz.prog w = .ok 1 w := by kernel_rfl
  by_cases h0 : r = 0
  · subst h0
    refine ⟨w, ?_, ?_, ⟨rfl, rfl, rfl, Nat.le_refl _, fun _ _ _ => rfl⟩⟩
    · have hc := hcells 0 (by omega)
      have e : (bc (s.data.toList.take 0)).toArray = #[] := by simp [bc]
      rw [e] at hc
      have e2 : min s.size 0 = 0 := Nat.min_zero _
      cases ad <;> simp [Builtin.copy_, run_underlying Tryz.underlying23, hsz, Builtin.lenOf, hc, goInt, storeCells]
    · simpa using h
  · obtain ⟨g, rfl, rfl⟩ := had (by omega)
    have hbr := br_over h pl (s.data.toList.take (min s.size r)) l.length (by simp; omega) (by omega) (by
      obtain ⟨_, _, e, h1, _⟩ := h.rw.form
      cases e
      have := List.length_take_le (min s.size r) s.data.toList
      omega)
    have hl2 : (s.data.toList.take (min s.size r)).length = min s.size r := by rw [List.length_take, hsl]; omega
    rw [hl2] at hbr
    refine ⟨_, ?_, hbr, setCells_grown g _ _ w⟩
    obtain ⟨hrw, _⟩ := h
    rcases hrw with ⟨e, _⟩ | ⟨g2, cap2, e, hg, h1, h2, h3⟩
    · cases e
    · simp only [Value.slice.injEq, Option.some.injEq, Addr.mk.injEq, and_true, true_and] at e
      obtain ⟨rfl, rfl⟩ := e
      have hst := run_storeCells_cells (P := Tryz.prog) g pl (bc (s.data.toList.take (min s.size r))) 0 w (fun j hj => by rw [bc_length, hl2] at hj; exact (h3 _ (by omega)).1) (fun j hj => by rw [bc_length, hl2] at hj; exact (h3 _ (by omega)).2) (bc_one _)
      have hst' : (storeCells ⟨g, pl, none⟩ (bc (s.data.toList.take (min s.size r))) 0).run Tryz.prog w = .ok () (w.setCells g pl (bc (s.data.toList.take (min s.size r)))) := hst
      have hc := hcells (min s.size r) (by omega)
      have e3 : Nat.min s.size r = min s.size r := rfl
      simp [Builtin.copy_, run_underlying Tryz.underlying23, hsz, Builtin.lenOf, e3, hc, goInt, hst']

theorem extract_all (s : ByteArray) : s.extract 0 s.size = s := by
  apply ByteArray.ext
  apply Array.toList_inj.1
  rw [Lib.extract_data, List.drop_zero, List.take_of_length_le (by simp)]

theorem lay_math (l1 t : List UInt8) (pl r : Nat) (hr : l1.length = pl + r) : l1.take pl ++ t.take (min t.length r) ++ l1.drop (pl + min t.length r) ++ t.drop (min t.length r) = l1.take pl ++ t ++ l1.drop (pl + t.length) := by
  by_cases hm : t.length ≤ r
  · have e1 : t.take t.length = t := List.take_length
    have e2 : t.drop t.length = [] := List.drop_length
    rw [Nat.min_eq_left hm, e1, e2, List.append_nil]
  · have e1 : l1.drop (pl + t.length) = [] := List.drop_of_length_le (by omega)
    have e2 : l1.drop (pl + r) = [] := List.drop_of_length_le (by omega)
    rw [Nat.min_eq_right (by omega), e1, e2, List.append_nil, List.append_nil, List.append_assoc, List.take_append_drop]

def LayPost (w : World) (v : Value) (l : List UInt8) (pl : Nat) (s : ByteArray) (e : Ending) (w' : World) : Prop :=
  ∃ v', e = .returned v' ∧ BR w' v' (layB l pl s.data.toList) ∧ Tn (fun k => v.ownBlock = some k) w w' ∧ (∀ g, v'.ownBlock = some g → v.ownBlock = some g ∨ w.heap.size ≤ g) ∧ Still w' v l.length

/-- what stands behind the gap: the bytes are copied over, and appended -/
theorem lay_tail {w w1 : World} {v : Value} {l l1 : List UInt8} {a : Option Addr} {cap pl r n1 : Nat} {s : ByteArray} (hn1 : l1.length = n1) (h1 : BR w1 (.slice a n1 cap) l1) (ht : Tn (fun k => v.ownBlock = some k) w w1) (ho : ∀ g, Value.ownBlock (.slice a n1 cap) = some g → v.ownBlock = some g ∨ w.heap.size ≤ g) (he : l1 = l ++ List.replicate (pl - l.length) 0) (hr : l1.length = pl + r) (hs : ¬ s.size = 0) (hb : l1.length + s.size ≤ 70368744177664) (ad : Option Addr) (q : Nat) (had : 0 < r → ∃ g, a = some ⟨g, 0, none⟩ ∧ ad = some ⟨g, pl, none⟩) (hst : Still w1 v l.length) (hrel : Rel v (.slice a n1 cap) l.length) :
    ∃ w2, (Builtin.copy_ #[23, 9] 3 #[.slice ad r q, .string s]).run Tryz.prog w1 = .ok (.int .i64 ((min s.size r : Nat) : Int)) w2 ∧
    ∃ a3 n3 cap3 w3, (Builtin.append_ #[23, 9] 23 #[.slice a n1 cap, .string (s.extract (min s.size r) s.size)]).run Tryz.prog w2 = .ok (.slice a3 n3 cap3) w3 ∧ LayPost w v l pl s (.returned (.slice a3 n3 cap3)) w3 := by
  subst hn1
  obtain ⟨w2, hc, hbr2, hg2⟩ := copy_run 3 h1 pl r hr ad q had s
  have hsl : s.data.toList.length = s.size := by simp
  have hxd : (s.extract (min s.size r) s.size).data.toList = s.data.toList.drop (min s.size r) := by
    rw [Lib.extract_data, List.take_of_length_le (by simp)]
  have hxs : (s.extract (min s.size r) s.size).size = s.size - min s.size r := by simp
  have hl2 : (l1.take pl ++ s.data.toList.take (min s.size r) ++ l1.drop (pl + min s.size r)).length = l1.length := by simp; omega
  have hsrc : Src Tryz.prog 1 9 (.string (s.extract (min s.size r) s.size)) (s.data.toList.drop (min s.size r)).length (bc (s.data.toList.drop (min s.size r))) w2 := by
    have := Src.ofString (P := Tryz.prog) w2 Tryz.underlying9 (s.extract (min s.size r) s.size)
    rw [bc_string, hxd, hxs] at this
    rw [List.length_drop, hsl]
    exact this
  have hst2 := hst.step hg2 hrel hbr2
  rw [← hl2] at hbr2
  obtain ⟨v3, w3, hr3, hbr3, hg3, hgo3⟩ := br_append2 23 hbr2 hsrc (by rw [hl2, List.length_drop, hsl]; omega)
  have ho3 := hgo3.own
  obtain ⟨a3, cap3, rfl, _⟩ := hbr3.rw.form
  rw [hl2] at hr3 hg3 ho3 hgo3
  refine ⟨w2, hc, a3, _, cap3, w3, hr3, _, rfl, ?_, ?_, ?_, (hst2.goes hg3 hrel hgo3 hbr3).1⟩
  · have e : layB l pl s.data.toList = l1.take pl ++ s.data.toList.take (min s.size r) ++ l1.drop (pl + min s.size r) ++ s.data.toList.drop (min s.size r) := by
      have hne : ¬ s.data.toList = [] := fun e => hs (by rw [← hsl, e]; rfl)
      unfold layB
      rw [if_neg hne, ← he]
      have := lay_math l1 s.data.toList pl r hr
      rw [hsl] at this ⊢
      exact this.symm
    rw [e]
    exact hbr3
  · have hsub : ∀ i, Value.ownBlock (.slice a l1.length cap) = some i → i < w.heap.size → v.ownBlock = some i := fun i hi hlt => by
      rcases ho i hi with h | h
      · exact h
      · omega
    exact (ht.grown hg2 hsub).grown hg3 hsub
  · intro g hg
    have hs1 := ht.size
    have hs2 := hg2.size
    rcases ho3 with e | e
    · exact ho g (by rw [← e]; exact hg)
    · rw [e] at hg; cases hg; right; omega

theorem wpList_zeros (w : World) {ops : Array Oper} {rest : List Oper} {o : Oper} {a : Act} {Q : Exit → Act → World → Prop} (hg : o.guard = none) (s x : Operand) (ho : o.op = .call { callee := .builtin .append, args := #[s, x], argTypes := #[23, 3] }) (hty : o.type = 23)
    (v : Value) (n : Nat) (l : List UInt8) (hs : a.eval s = v) (hx : a.eval x = .int .i64 (n : Int)) (h : BR w v l) (h0 : 0 < n) (hb : l.length + n ≤ 70368744177664)
    (hK : ∀ a1 cap1 w', BR w' (.slice a1 (l.length + n) cap1) (l ++ List.replicate n 0) → w.grownBy w' v.ownBlock → (∀ g, Value.ownBlock (.slice a1 (l.length + n) cap1) = some g → v.ownBlock = some g ∨ w.heap.size ≤ g) → Goes w w' v (.slice a1 (l.length + n) cap1) → wpList Tryz.prog ops Q rest (a.put o.dst (.slice a1 (l.length + n) cap1)) w') : wpList Tryz.prog ops Q (o :: rest) a w := by
  refine wpList_plain hg fun K' hK' => ?_
  obtain ⟨v', w', hr, hbr, hgr, hgo⟩ := br_zeros2 h n h0 hb
  have hown := hgo.own
  obtain ⟨a1, cap1, hv, _⟩ := hbr.rw.form
  rw [List.length_append, List.length_replicate] at hv
  subst hv
  have hk := hK a1 cap1 w' hbr hgr (fun g hg => by
    rcases hown with e | e
    · left; rw [← e]; exact hg
    · right; rw [e] at hg; cases hg; exact Nat.le_refl _) hgo
  unfold Oper.wp
  simp [execOp, ho, hty, resolve, invoke, builtin, hs, hx, hr, Result.andThen]
  exact hK' _ _ hk

theorem wpList_run (w : World) {ops : Array Oper} {rest : List Oper} {o : Oper} {a : Act} {Q : Exit → Act → World → Prop} (hg : o.guard = none) (s x : Operand) (ho : o.op = .call { callee := .builtin .copy, args := #[s, x], argTypes := #[23, 9] })
    (v xv : Value) (hs : a.eval s = v) (hx : a.eval x = xv) (v' : Value) (w' : World) (hrun : (Builtin.copy_ #[23, 9] o.type #[v, xv]).run Tryz.prog w = .ok v' w')
    (hK : wpList Tryz.prog ops Q rest (a.put o.dst v') w') : wpList Tryz.prog ops Q (o :: rest) a w := by
  refine wpList_plain hg fun K' hK' => ?_
  unfold Oper.wp
  simp [execOp, ho, resolve, invoke, builtin, hs, hx, hrun, Result.andThen]
  exact hK' _ _ hK

set_option maxHeartbeats 1000000 in
set_option maxRecDepth 100000 in
theorem lay_nil (v : Value) (l : List UInt8) (pl : Nat) (s : ByteArray) (w : World) (h : BR w v l) (hs : s.size = 0) :
    Calls Tryz.prog 169 #[v, .int .i64 (pl : Int), .string s] w (LayPost w v l pl s) := by
  have he : s.toList.isEmpty = true := by rw [toList_isEmpty]; simpa using hs
  have hd : s.data.toList = [] := by rw [← ByteArray.toList_eq]; exact (toList_nil s).2 hs
  have hend : LayPost w v l pl s (.returned v) w := ⟨v, rfl, by unfold layB; rw [if_pos hd]; exact h, Tn.refl _ _, fun g hg => .inl hg, ⟨l, rfl, h⟩⟩
  have HE := hid hend
  clear h hs hd hend
  go_enter Tryz.func169, Tryz.ntmps169
  go_wp2
  go_ret
  exact HE.out

set_option maxHeartbeats 2000000 in
set_option maxRecDepth 100000 in
theorem lay_over (v : Value) (l : List UInt8) (pl : Nat) (s : ByteArray) (w : World) (h : BR w v l) (hs : ¬ s.size = 0) (hpl : pl ≤ l.length) (hb : l.length + s.size ≤ 70368744177664) :
    Calls Tryz.prog 169 #[v, .int .i64 (pl : Int), .string s] w (LayPost w v l pl s) := by
  have he : s.toList.isEmpty = false := by rw [toList_isEmpty]; simpa using hs
  obtain ⟨a, cap, rfl, hlc, hcm, hnil, hsome⟩ := h.rw.form
  obtain ⟨r, hr⟩ : ∃ r, l.length = pl + r := ⟨l.length - pl, by omega⟩
  obtain ⟨q, rfl⟩ : ∃ q, cap = pl + q := ⟨cap - pl, by omega⟩
  have hrep : l = l ++ List.replicate (pl - l.length) 0 := by rw [show pl - l.length = 0 by omega]; simp
  cases a with
  | none =>
    obtain ⟨h0, h1⟩ := hnil rfl
    have hp0 : pl = 0 := by omega
    have hr0 : r = 0 := by omega
    have hq0 : q = 0 := by omega
    subst hp0 hr0 hq0
    obtain ⟨w2, hc, a3, n3, cap3, w3, hap, hend⟩ := lay_tail (n1 := 0) h0 (by rw [h0] at h; exact h) (Tn.refl _ w) (fun g hg => .inl hg) hrep hr hs (by omega) none 0 (fun h => by omega) ⟨l, rfl, by rw [h0] at h; exact h⟩ (.inl ⟨none, 0, _, by rw [h0], rfl, by omega⟩)
    have e0 : min s.size 0 = 0 := Nat.min_zero _
    rw [e0] at hc hap
    rw [extract_all] at hap
    have HC := hid hc
    have HAP := hid hap
    have HE := hid hend
    rw [h0]
    simp only [Nat.add_zero] at HC HAP HE ⊢
    have hs0 : (0 : Int) ≤ (s.size : Int) := by omega
    clear hc hap hend h hs hrep hnil hsome hlc hr h0 h1 e0 hpl
    go_enter Tryz.func169, Tryz.ntmps169
    go_wp2_with (first
      | (at_builtin; refine wpList_app _ rfl _ _ _ _ rfl _ _ rfl rfl _ w3 HAP.out ?_)
      | (refine wpList_run _ rfl (.tmp 23) (.tmp 24) rfl _ _ rfl rfl _ w2 HC.out ?_))
    go_ret
    exact HE.out
  | some x =>
    obtain ⟨hx, hxl⟩ := hsome x rfl
    obtain ⟨g, o, sp⟩ := x
    cases hx
    obtain ⟨w2, hc, a3, n3, cap3, w3, hap, hend⟩ := lay_tail (n1 := pl + r) hr (by rw [← hr]; exact h) (Tn.refl _ w) (fun g hg => .inl hg) hrep hr hs (by omega) (if q = 0 then some ⟨g, 0, none⟩ else some ⟨g, pl, none⟩) q (fun h => ⟨g, rfl, by rw [if_neg (by omega)]⟩) ⟨l, rfl, by rw [← hr]; exact h⟩ (.inl ⟨_, _, _, by rw [hr], rfl, by omega⟩)
    have HC := hid hc
    have HAP := hid hap
    have HE := hid hend
    rw [hr]
    rw [hr] at hlc
    obtain ⟨m, hm⟩ : ∃ m, min s.size r = m := ⟨_, rfl⟩
    have hms : m ≤ s.size := by omega
    rw [hm] at HC HAP
    have hm1 : (0 : Int) ≤ (m : Int) := by omega
    have hm2 : (m : Int) ≤ (s.size : Int) := by omega
    have hb1 : (0 : Int) ≤ (pl : Int) := by omega
    have hb2 : (pl : Int) ≤ (pl : Int) + (r : Int) := by omega
    have hb4 : (pl : Int) ≤ (pl : Int) + (q : Int) := by omega
    have hb5 : ((pl : Int) - ((pl : Int) + (r : Int)) ≤ 0) := by omega
    clear hc hap hend h hs hrep hnil hsome hr hm hpl
    by_cases hq : q = 0
    · rw [if_pos hq] at HC
      subst hq
      obtain rfl : r = 0 := by omega
      simp only [Nat.add_zero] at HC HAP HE ⊢
      go_enter Tryz.func169, Tryz.ntmps169
      go_wp2_with (first
        | (at_builtin; refine wpList_app _ rfl _ _ _ _ rfl _ _ rfl rfl _ w3 HAP.out ?_)
        | (refine wpList_run _ rfl (.tmp 23) (.tmp 24) rfl _ _ rfl rfl _ w2 HC.out ?_))
      go_ret
      exact HE.out
    · rw [if_neg hq] at HC
      go_enter Tryz.func169, Tryz.ntmps169
      go_wp2_with (first
        | (at_builtin; refine wpList_app _ rfl _ _ _ _ rfl _ _ rfl rfl _ w3 HAP.out ?_)
        | (refine wpList_run _ rfl (.tmp 23) (.tmp 24) rfl _ _ rfl rfl _ w2 HC.out ?_))
      go_ret
      exact HE.out
end Go.Proofs.YtoidddfpekbliaaGreat
namespace Go.Proofs.YtoidddfpekbliaaGreat
set_option linter.unusedSimpArgs false
set_option linter.unusedVariables false
open Go.RowKit
attribute [local go_sem ↓] Go.wp_at_zero Go.wp_at_succ

theorem copy_none (w : World) (ad : Option Addr) (q : Nat) (s : ByteArray) (ty : TypeId) : (Builtin.copy_ #[23, 9] ty #[.slice ad 0 q, .string s]).run Tryz.prog w = .ok (.int .i64 0) w := by
  have hsz : (sizeOf 5).run Tryz.prog w = .ok 1 w := by kernel_rfl
  have hc : (Builtin.firstCells 1 0 (.string s)).run Tryz.prog w = .ok #[] w := by
    simp [Builtin.firstCells]
  cases ad <;> simp [Builtin.copy_, run_underlying Tryz.underlying23, hsz, Builtin.lenOf, hc, goInt, storeCells]

theorem lay_tail0 {w w1 : World} {v : Value} {l l1 : List UInt8} {a : Option Addr} {cap pl n1 : Nat} {s : ByteArray} (hn1 : l1.length = n1) (h1 : BR w1 (.slice a n1 cap) l1) (ht : Tn (fun k => v.ownBlock = some k) w w1) (ho : ∀ g, Value.ownBlock (.slice a n1 cap) = some g → v.ownBlock = some g ∨ w.heap.size ≤ g) (he : l1 = l ++ List.replicate (pl - l.length) 0) (hr : l1.length = pl) (hs : ¬ s.size = 0) (hb : l1.length + s.size ≤ 70368744177664) (hst : Still w1 v l.length) (hrel : Rel v (.slice a n1 cap) l.length) :
    ∃ a3 n3 cap3 w3, (Builtin.append_ #[23, 9] 23 #[.slice a n1 cap, .string s]).run Tryz.prog w1 = .ok (.slice a3 n3 cap3) w3 ∧ LayPost w v l pl s (.returned (.slice a3 n3 cap3)) w3 := by
  obtain ⟨w2, hc, a3, n3, cap3, w3, hap, hend⟩ := lay_tail (r := 0) hn1 h1 ht ho he (by omega) hs hb none 0 (fun h => by omega) hst hrel
  rw [copy_none] at hc
  have e : w2 = w1 := by
    simp only [Result.ok.injEq] at hc
    exact hc.2.symm
  subst e
  rw [Nat.min_zero, extract_all] at hap
  exact ⟨a3, n3, cap3, w3, hap, hend⟩

set_option maxHeartbeats 2000000 in
set_option maxRecDepth 100000 in
theorem lay_gap (v : Value) (l : List UInt8) (n : Nat) (s : ByteArray) (w : World) (h : BR w v l) (hs : ¬ s.size = 0) (hn : 0 < n) (hb : l.length + n + s.size ≤ 70368744177664) :
    Calls Tryz.prog 169 #[v, .int .i64 ((l.length + n : Nat) : Int), .string s] w (LayPost w v l (l.length + n) s) := by
  have he : s.toList.isEmpty = false := by rw [toList_isEmpty]; simpa using hs
  have hself : Rel v v l.length := by
    obtain ⟨a, c, e, _⟩ := h.rw.form
    exact .inl ⟨a, _, c, e, e, Nat.le_refl _⟩
  have htail : ∀ a1 cap1 w1, BR w1 (.slice a1 (l.length + n) cap1) (l ++ List.replicate n 0) → w.grownBy w1 v.ownBlock → (∀ g, Value.ownBlock (.slice a1 (l.length + n) cap1) = some g → v.ownBlock = some g ∨ w.heap.size ≤ g) → Goes w w1 v (.slice a1 (l.length + n) cap1) →
      ∃ g q a3 n3 cap3 w3, a1 = some ⟨g, 0, none⟩ ∧ cap1 = l.length + n + q ∧ l.length + n + q ≤ 9223372036854775807 ∧ (Builtin.append_ #[23, 9] 23 #[.slice a1 (l.length + n) cap1, .string s]).run Tryz.prog w1 = .ok (.slice a3 n3 cap3) w3 ∧ LayPost w v l (l.length + n) s (.returned (.slice a3 n3 cap3)) w3 := fun a1 cap1 w1 hbr hg ho hgo => by
    obtain ⟨g, cap2, e, _, h1, h2, _⟩ := hbr.rw.pos (by simp; omega)
    simp only [Value.slice.injEq] at e
    obtain ⟨rfl, _, rfl⟩ := e
    obtain ⟨a3, n3, cap3, w3, hap, hend⟩ := lay_tail0 (w := w) (v := v) (l := l) (pl := l.length + n) (by simp) hbr (Tn.of_grown hg) ho (by simp) (by simp) hs (by simp; omega) (Still.goes ⟨l, rfl, h⟩ hg hself hgo hbr).1 (Still.goes ⟨l, rfl, h⟩ hg hself hgo hbr).2
    rw [List.length_append, List.length_replicate] at h1
    exact ⟨g, cap1 - (l.length + n), a3, n3, cap3, w3, rfl, by omega, by omega, hap, hend⟩
  have HT := hid htail
  have HC := hid copy_none
  have HBR := hid h
  obtain ⟨a, cap, rfl, hlc, hcm, hnil, hsome⟩ := h.rw.form
  obtain ⟨len, hlen⟩ : ∃ len, l.length = len := ⟨_, rfl⟩
  rw [hlen] at hlc hb hnil HBR HT ⊢
  have HL := hid hlen
  have ec : ((len + n : Nat) : Int) = (len : Int) + (n : Int) := by omega
  have hd1 : (len : Int) + (n : Int) - (len : Int) = (n : Int) := by omega
  have hd2 : (0 : Int) < (n : Int) := by omega
  have hd3 : (0 : Int) ≤ (len : Int) + (n : Int) := by omega
  rw [ec]
  clear h htail hself hs hnil hsome hlen ec hcm
  go_enter Tryz.func169, Tryz.ntmps169
  go_wp2_with (first
    | (at_builtin; refine wpList_zeros _ rfl (.tmp 18) (.tmp 19) rfl rfl _ n l rfl rfl (by exact HBR.out) hn (by rw [HL.out]; omega) ?_; rw [HL.out]; intro a1 cap1 w1 hbr1 hg1 ho1 hgo1; obtain ⟨g, q, a3, n3, cap3, w3, rfl, rfl, hq, hap, hend⟩ := HT.out a1 cap1 w1 hbr1 hg1 ho1 hgo1; have HAP := hid hap; have HE := hid hend; clear hap hend hbr1 hg1 ho1 hgo1)
    | (at_builtin; refine wpList_app _ rfl _ _ _ _ rfl _ _ rfl rfl _ w3 HAP.out ?_)
    | (refine wpList_run _ rfl (.tmp 23) (.tmp 24) rfl _ _ rfl rfl _ _ (HC.out _ _ _ _ _) ?_))
  all_goals (go_ret; exact HE.out)

theorem lay_raw (v : Value) (l : List UInt8) (pl : Nat) (s : ByteArray) (w : World) (h : BR w v l) (hb : l.length + pl + s.size ≤ 70368744177664) :
    Calls Tryz.prog 169 #[v, .int .i64 (pl : Int), .string s] w (LayPost w v l pl s) := by
  by_cases hs : s.size = 0
  · exact lay_nil v l pl s w h hs
  by_cases hp : pl ≤ l.length
  · exact lay_over v l pl s w h hs hp (by omega)
  · obtain ⟨n, rfl⟩ : ∃ n, pl = l.length + n := ⟨pl - l.length, by omega⟩
    exact lay_gap v l n s w h hs (by omega) (by omega)
theorem layB_length (l : List UInt8) (pl : Nat) (t : List UInt8) : (layB l pl t).length ≤ max l.length (pl + t.length) := by
  unfold layB
  split
  · omega
  · simp; omega
end Go.Proofs.YtoidddfpekbliaaGreat
namespace Go.Proofs.YtoidddfpekbliaaGreat
set_option linter.unusedSimpArgs false
set_option linter.unusedVariables false
open Go.RowKit
attribute [local go_sem ↓] Go.wp_at_zero Go.wp_at_succ

/-- the look-up of a file, and what becomes of the files while that file's bytes are being written -/
theorem fm_look2 {w : World} {L : Nat → Option Lab} {N : Nat} {mo : Option Nat} {fs : List UInt8 → Option (List UInt8)} (h : FM w L N mo fs) (hlt : ∀ k, L k ≠ none → k < w.heap.size) (s : ByteArray) (hs : s.size ≤ maxLen) :
    ∃ v, (Instr.lookup 90 (.map mo) (.string s) false).run Tryz.prog w = .ok v w ∧ BR w v ((fs s.data.toList).getD []) ∧ (∀ g, v.ownBlock = some g → L g = some (.fl s.data.toList)) ∧ ((fs s.data.toList).getD []).length ≤ N ∧
      ∀ w2, Tn (fun g => v.ownBlock = some g) w w2 → Still w2 v ((fs s.data.toList).getD []).length → ∃ fs2, FM w2 L N mo fs2 ∧ ∀ x, x ≠ s.data.toList → fs2 x = fs x := by
  obtain ⟨v, _, hr, hbr, hlab, hlen⟩ := fm_look h s hs
  have hkey := WideMaps.keyOf_string_mk (P := Tryz.prog) Tryz.underlying9 hs
  refine ⟨v, hr, hbr, hlab, hlen, fun w2 t hst => ?_⟩
  rcases h with ⟨rfl, hf⟩ | ⟨b, n, D, rfl, hn, hb, hown, hf⟩
  · exact ⟨fs, .inl ⟨rfl, hf⟩, fun _ _ => rfl⟩
  · have hk : ∀ k, L k ≠ none → L k ≠ some (.fl s.data.toList) → w2.heap[k]? = w.heap[k]? := fun k h1 h2 => t.block k (hlt k h1) (fun e => h2 (hlab k e))
    have hbk : w2.ownsMap Tryz.prog 9 rawElem b n D := by
      obtain ⟨es, clock, h1, r⟩ := hown
      exact ⟨es, clock, (hk b (by rw [hb]; simp) (by rw [hb]; simp)).trans h1, r⟩
    obtain ⟨v2, ps2, hr2, hv2⟩ := hown.lookup law9 Tryz.underlying90 (zero64 w) (zd := .held nilV) (zp := []) rfl hkey
    have ev : v2 = v := by
      rw [hr2] at hr
      simp only [Result.ok.injEq] at hr
      exact hr.1
    subst ev
    simp only [rawElem, Option.some.injEq, Prod.mk.injEq] at hv2
    cases hfs : fs s.data.toList with
    | none =>
      refine ⟨fs, .inr ⟨b, n, D, rfl, hn, hb, hbk, fun k => ⟨(hf k).1, fun l hl => ?_⟩⟩, fun _ _ => rfl⟩
      obtain ⟨v', hv', hbr', hlab', hlen'⟩ := (hf k).2 l hl
      have hne : k ≠ s.data.toList := by rintro rfl; rw [hfs] at hl; cases hl
      exact ⟨v', hv', hbr'.kept (fun g hg => hk g (by rw [hlab' g hg]; simp) (by rw [hlab' g hg]; simpa using hne)), hlab', hlen'⟩
    | some l0 =>
      rw [hfs] at hst hlen
      obtain ⟨l2, hl2, hbr2⟩ := hst
      refine ⟨fun x => if x = s.data.toList then some l2 else fs x, .inr ⟨b, n, D, rfl, hn, hb, hbk, fun k => ?_⟩, fun x hx => by simp [hx]⟩
      by_cases e : k = s.data.toList
      · subst e
        simp only [if_true]
        refine ⟨by rw [(hf _).1, hfs]; rfl, fun l hl => ?_⟩
        cases hl
        exact ⟨v2, hv2.1.symm, hbr2, hlab, by rw [hl2]; exact hlen⟩
      · simp only [if_neg e]
        refine ⟨(hf k).1, fun l hl => ?_⟩
        obtain ⟨v', hv', hbr', hlab', hlen'⟩ := (hf k).2 l hl
        exact ⟨v', hv', hbr'.kept (fun g hg => hk g (by rw [hlab' g hg]; simp) (by rw [hlab' g hg]; simpa using e)), hlab', hlen'⟩

/-- the place of a descriptor is written -/
theorem PX.setPl {w : World} {p : Nat} {L : Nat → Option Lab} {N : Nat} {S : St} {c : Nat → Value} {mo : Option Nat} {iv tv : Value} {vs : Nat → Value} (h : PX w p L N S c mo iv tv vs) (i : Nat) (hi : i < 19) (r : Nat) (hr : r ≤ N) :
    PX (w.setCell ⟨p, 3 + i * 3 + 2, none⟩ (.int .i64 (r : Int))) p L N (S.setDe i { S.ds i with place := r }) (upd c (3 + i * 3 + 2) (.int .i64 (r : Int))) mo iv tv vs := by
  obtain ⟨h1, h2, h3, h4, h5⟩ := h.store (3 + i * 3 + 2) (by omega) (.int .i64 (r : Int))
  refine { h with sc := h1, c0 := ?_, c1 := ?_, c2 := ?_, c60 := ?_, cd := fun j hj => ?_, pl := fun j hj => ?_, lt := fun k hk => by rw [h5]; exact h.lt k hk, fm := h2, inp := h3, ew := h4 }
  · rw [upd_other _ _ (by omega)]; exact h.c0
  · rw [upd_other _ _ (by omega)]; exact h.c1
  · rw [upd_other _ _ (by omega)]; exact h.c2
  · rw [upd_other _ _ (by omega)]; exact h.c60
  · have := h.cd j hj
    by_cases e : j = i
    · subst e
      simp only [St.setDe, upd_same]
      rw [upd_other _ _ (by omega), upd_other _ _ (by omega)]
      exact ⟨this.1, this.2.1, trivial⟩
    · simp only [St.setDe, upd_other _ _ e]
      rw [upd_other _ _ (by omega), upd_other _ _ (by omega), upd_other _ _ (by omega)]
      exact this
  · by_cases e : j = i
    · subst e; simp only [St.setDe, upd_same]; exact ⟨hr, (h.pl j hj).2⟩
    · simp only [St.setDe, upd_other _ _ e]; exact h.pl j hj

/-- a file's bytes behind a place are written -/
def St.layF (S : St) (nm : ByteArray) (pl : Nat) (t : List UInt8) : St := S.put nm.data.toList (layB ((S.fs nm.data.toList).getD []) pl t)

theorem lay_put (p : Nat) (L : Nat → Option Lab) (N : Nat) (S : St) (nm s : ByteArray) (pl : Nat) (w : World) (h : PW w p L N S) (hnm : nm.size ≤ 255) (hpl : pl ≤ N) (hN : N + N + s.size ≤ 70368744177664) (hfs : (S.fs nm.data.toList).isSome = true) :
    ∃ mo v, w.cell? ⟨p, 0, none⟩ = some (.map (some mo)) ∧ (Instr.lookup 90 (.map (some mo)) (.string nm) false).run Tryz.prog w = .ok v w ∧
      Calls Tryz.prog 169 #[v, .int .i64 (pl : Int), .string s] w fun e w2 => ∃ v', e = .returned v' ∧ Tn (fun k => L k ≠ none) w w2 ∧ w2.cell? ⟨p, 0, none⟩ = some (.map (some mo)) ∧ p < w2.heap.size ∧
        ∀ u, Tn No w2 u → Calls Tryz.prog 41 #[.pointer (some ⟨p, 0, none⟩), .string nm, v'] u fun e w3 => e = .returned (.tuple #[]) ∧ Lft w p L w3 (N + s.size + 1) (S.layF nm pl s.data.toList) ∧ w3.cell? ⟨p, 0, none⟩ = some (.map (some mo)) := by
  obtain ⟨c, mo0, iv, tv, vs, hx⟩ := h
  obtain ⟨mo, rfl⟩ : ∃ mo, mo0 = some mo := by
    rcases hx.fm with ⟨_, e⟩ | ⟨b, _, _, e, _⟩
    · rw [e] at hfs; cases hfs
    · exact ⟨b, e⟩
  obtain ⟨v, hr, hbr, hlab, hlen, hflux⟩ := fm_look2 hx.fm hx.lt nm (by unfold maxLen; omega)
  refine ⟨mo, v, (hx.sc.cell 0 (by omega)).trans (by rw [hx.c0]), hr, (lay_raw v _ pl s w hbr (by omega)).mono (fun e w2 hpost => ?_)⟩
  obtain ⟨v', rfl, hbr', t, hown, hst⟩ := hpost
  obtain ⟨fs2, hfm2, hfs2⟩ := hflux w2 t hst
  have hk : ∀ k, L k ≠ none → L k ≠ some (.fl nm.data.toList) → w2.heap[k]? = w.heap[k]? := fun k h1 h2 => t.block k (hx.lt k h1) (fun e => h2 (hlab k e))
  have tL : Tn (fun k => L k ≠ none) w w2 := t.mono (fun i _ e => by rw [hlab i e]; simp)
  have hpx : PX w2 p L N { S with fs := fs2 } c (some mo) iv tv vs :=
    { hx with
      sc := hx.sc.kept (hk p (by rw [hx.labs]; simp) (by rw [hx.labs]; simp))
      lt := fun k hk => Nat.lt_of_lt_of_le (hx.lt k hk) t.size
      fm := hfm2
      inp := hx.inp.kept (fun g hg => hk g (by rw [hx.labi g hg]; simp) (by rw [hx.labi g hg]; simp))
      ew := hx.ew.kept2 (fun k hl => by rcases hl with hl | ⟨n, hl⟩ <;> exact hk k (by rw [hl]; simp) (by rw [hl]; simp)) }
  have hll : (layB ((S.fs nm.data.toList).getD []) pl s.data.toList).length ≤ N + s.size + 1 := by
    have := layB_length ((S.fs nm.data.toList).getD []) pl s.data.toList
    have e : s.data.toList.length = s.size := by simp
    omega
  have hSt : St.put { S with fs := fs2 } nm.data.toList (layB ((S.fs nm.data.toList).getD []) pl s.data.toList) = S.layF nm pl s.data.toList := by
    have e2 : ∀ r : List UInt8, (fun x => if x = nm.data.toList then some r else fs2 x) = (fun x => if x = nm.data.toList then some r else S.fs x) := fun r => by
      funext x
      by_cases e : x = nm.data.toList
      · rw [if_pos e, if_pos e]
      · rw [if_neg e, if_neg e, hfs2 x e]
    unfold St.layF St.put
    simp only [e2]
  refine ⟨v', rfl, tL, (hpx.sc.cell 0 (by omega)).trans (by rw [hpx.c0]), hpx.sc.lt, fun u tu => ?_⟩
  -- the labels
  obtain ⟨L2, hpx2, hlab2, hL2⟩ : ∃ L2, PX w2 p L2 N { S with fs := fs2 } c (some mo) iv tv vs ∧ (∀ g, v'.ownBlock = some g → L2 g = some (.fl nm.data.toList)) ∧ ∀ k, k < w.heap.size → L k = none → L2 k = none := by
    cases hob : v'.ownBlock with
    | none => exact ⟨L, hpx, fun g hg => (by cases hg), fun _ _ e => e⟩
    | some g =>
      by_cases hg : L g = none
      · have hgs : w.heap.size ≤ g := by
          rcases hown g hob with e | e
          · rw [hlab g e] at hg; cases hg
          · exact e
        refine ⟨upd L g (some (.fl nm.data.toList)), hpx.name g (hbr'.lt g hob) hg _, fun g' hg' => ?_, fun k hk e => ?_⟩
        · cases hg'; exact upd_same _ _ _
        · rw [upd_other _ _ (by omega)]; exact e
      · refine ⟨L, hpx, fun g' hg' => ?_, fun _ _ e => e⟩
        cases hg'
        rcases hown g hob with e | e
        · exact hlab g e
        · have := hx.lt g hg; omega
  have k0u : u.cell? ⟨p, 0, none⟩ = some (.map (some mo)) := (tu.cell hpx.sc.lt (fun e => e)).trans ((hpx.sc.cell 0 (by omega)).trans (by rw [hpx.c0]))
  have := put_raw2 p L2 (N + s.size) { S with fs := fs2 } nm v' _ u ⟨_, _, _, _, _, (hpx2.mono (Nat.le_add_right N s.size)).no tu⟩ (by omega) (by unfold maxLen; omega) (hbr'.no tu) hlab2 hll
  rw [hSt] at this
  exact this.mono (fun e w3 ⟨h1, h2, h3⟩ => ⟨h1, h2.trans (tL.thenNo tu) hL2, h3 mo k0u⟩)
end Go.Proofs.YtoidddfpekbliaaGreat
