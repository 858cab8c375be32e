/-
  heap: rows of elements: what can be read, what is one's own.
-/
import Derived.Test.YtlkbnjdhokjfnaaBase
import Derived.Deep.MidRow
import Derived.Deep.LoopGhost
namespace Go.Proofs.Ytlkbnjdhokjfnaa
set_option linter.unusedSimpArgs false
set_option linter.unusedVariables false
open Go.RowKit

/-- append, at the operation -/
theorem wpList_app (w : World) {ops : Array Oper} {rest : List Oper} {o : Oper} {a : Act} {Q : Exit → Act → World → Prop} (hg : o.guard = none) (s x : Operand) (t tx : TypeId) (ho : o.op = .call { callee := .builtin .append, args := #[s, x], argTypes := #[t, tx] })
    (v xv : Value) (hs : a.eval s = v) (hx : a.eval x = xv) (v' : Value) (w' : World) (hrun : (Builtin.append_ #[t, tx] o.type #[v, xv]).run Try.prog w = .ok v' w')
    (hK : wpList Try.prog ops Q rest (a.put o.dst v') w') : wpList Try.prog ops Q (o :: rest) a w := by
  refine wpList_plain hg fun K' hK' => ?_
  unfold Oper.wp
  simp [execOp, ho, resolve, invoke, builtin, hs, hx, hrun, Result.andThen]
  exact hK' _ _ hK
theorem wpList_bytes (w : World) {ops : Array Oper} {rest : List Oper} {o : Oper} {a : Act} {Q : Exit → Act → World → Prop} (hg : o.guard = none) (x : Operand) (hop : o.op = Op.convert 9 40 x) (s : ByteArray) (hx : a.eval x = .string s) (hs : s.size ≤ maxLen)
    (hK : ∀ g cap w', BR w' (.slice (some ⟨g, 0, none⟩) s.size cap) s.data.toList → Tn No w w' → w.heap.size ≤ g → g < w'.heap.size → wpList Try.prog ops Q rest (a.put o.dst (.slice (some ⟨g, 0, none⟩) s.size cap)) w') : wpList Try.prog ops Q (o :: rest) a w := by
  refine wpList_plain hg fun K' hK' => ?_
  have hr := Lib.run_convert_string_bytes (P := Try.prog) w 9 40 5 s Try.underlying9 Try.underlying40 Try.underlying5
  obtain ⟨hbr, t⟩ := br_new w s hs
  unfold Oper.wp
  simp [execOp, hop, hx, hr, Result.andThen]
  exact hK' _ _ (hK _ _ _ hbr t (Nat.le_refl _) (hbr.lt _ rfl))

section
variable {α : Type} {size : Nat} {en : α → List Value} {w w' : World} {v : Value} {l : List α}

/-- the slice v may be read as the elements l, each of 'size' cells -/
def LD (size : Nat) (en : α → List Value) (w : World) (v : Value) (l : List α) : Prop :=
  ∃ a c, v = .slice a l.length c ∧ l.length ≤ c ∧ c ≤ 9223372036854775807 ∧ (0 < l.length → ∃ g o, a = some ⟨g, o, none⟩ ∧ g < w.heap.size ∧ ∀ i (hi : i < l.length) j, j < size → w.cell? ⟨g, o + (i * size + j), none⟩ = (en l[i])[j]?)

theorem LD.kept (h : LD size en w v l) (hk : ∀ g, v.ownBlock = some g → g < w.heap.size → w'.heap[g]? = w.heap[g]?) (hs : w.heap.size ≤ w'.heap.size) : LD size en w' v l := by
  obtain ⟨a, c, rfl, h1, h2, h3⟩ := h
  refine ⟨a, c, rfl, h1, h2, fun h0 => ?_⟩
  obtain ⟨g, o, rfl, hg, hc⟩ := h3 h0
  exact ⟨g, o, rfl, Nat.lt_of_lt_of_le hg hs, fun i hi j hj => by rw [World.cell?_of_block (w := w) (a := ⟨g, o + (i * size + j), none⟩) (hk g rfl hg)]; exact hc i hi j hj⟩
theorem LD.no (h : LD size en w v l) (t : Tn No w w') : LD size en w' v l := h.kept (fun g _ hg => t.block g hg (fun e => e)) t.size
theorem LD.nil (size : Nat) (en : α → List Value) (w : World) : LD size en w (.slice none 0 0) [] := ⟨none, 0, rfl, Nat.le_refl _, by omega, fun h => by cases h⟩

/-- the slice v is one's own, its elements are l -/
structure LR (size : Nat) (en : α → List Value) (w : World) (v : Value) (l : List α) : Prop where
  rw : RW w size v l.length
  at' : ∀ i (hi : i < l.length) j, j < size → vc w v (i * size + j) = (en l[i])[j]?

theorem LR.kept (h : LR size en w v l) (hk : ∀ g, v.ownBlock = some g → w'.heap[g]? = w.heap[g]?) : LR size en w' v l := ⟨h.rw.kept hk, fun i hi j hj => (vc_kept hk _).trans (h.at' i hi j hj)⟩
theorem LR.tn {F : Nat → Prop} (h : LR size en w v l) (t : Tn F w w') (hn : ∀ g, v.ownBlock = some g → ¬ F g) : LR size en w' v l := h.kept (fun g hg => t.block g (h.rw.lt g hg) (hn g hg))
theorem LR.no (h : LR size en w v l) (t : Tn No w w') : LR size en w' v l := h.tn t (fun _ _ e => e)
theorem LR.nil (size : Nat) (en : α → List Value) (w : World) : LR size en w (.slice none 0 0) [] := ⟨RW.nil w size, fun _ h => by cases h⟩
theorem LR.ld (h : LR size en w v l) : LD size en w v l := by
  obtain ⟨hrw, hat⟩ := h
  rcases hrw with ⟨rfl, e⟩ | ⟨g, cap, rfl, hg, h1, h2, h3⟩
  · obtain rfl := List.length_eq_zero_iff.1 e
    exact LD.nil _ _ _
  · exact ⟨_, cap, rfl, h1, by unfold maxLen at h2; omega, fun _ => ⟨g, 0, rfl, hg, fun i hi j hj => by rw [Nat.zero_add]; exact hat i hi j hj⟩⟩

/-- one more -/
theorem lr_push {t e : TypeId} {z : Value} {bytes : Nat} (ht : Try.prog.underlying t = some (.slice e)) (hi : (Try.prog.info? e).map (fun i => (i.zero, i.size, i.bytes)) = some (some z, size, bytes)) (hzs : z.cells.size = size) (hsz : 0 < size)
    (h : LR size en w v l) (a : α) (hen : (en a).length = size) (hone : ∀ u ∈ en a, u.oneCell' = true) (b : Nat) (hb : ∀ j u, (en a)[j]? = some u → w.cell? ⟨b, j, none⟩ = some u) (hm : l.length + 1 ≤ maxLen) (hbb : (l.length + 1) * bytes ≤ 140737488355328) (ty : TypeId) :
    ∃ v' w', (Builtin.append_ #[t, t] ty #[v, .slice (some ⟨b, 0, none⟩) 1 1]).run Try.prog w = .ok v' w' ∧ LR size en w' v' (l ++ [a]) ∧ w.grownBy w' v.ownBlock ∧ (v'.ownBlock = v.ownBlock ∨ v'.ownBlock = some w.heap.size) := by
  obtain ⟨i, hi, hz0, hz1, hz2⟩ := info_parts hi
  have hsrc : Src Try.prog size t (.slice (some ⟨b, 0, none⟩) 1 1) 1 (en a) w :=
    Src.ofSlice _ ht _ 1 1 _ (by omega) (fun j u hu => by rw [addr_add]; exact hb j u hu) hone
  obtain ⟨v', w', hr, hrw, hold, hnew, hgr, hown⟩ := rw_append ty e i z size bytes ht hi hz0 hz1 hz2 hzs h.rw hsrc hm hbb hsz
  refine ⟨v', w', hr, ⟨by rw [List.length_append]; exact hrw, fun k hk j hj => ?_⟩, hgr, hown⟩
  rw [List.length_append] at hk
  by_cases hkl : k < l.length
  · have : k * size + j < l.length * size := by
      have := Nat.mul_le_mul_right size (show k + 1 ≤ l.length by omega)
      rw [Nat.add_mul] at this; omega
    rw [hold _ this, h.at' k hkl j hj, List.getElem_append_left hkl]
  · have hk2 : k = l.length := by simp at hk; omega
    subst hk2
    rw [hnew j (by omega), List.getElem_append_right (Nat.le_refl _)]
    simp

/-- room for n -/
theorem lr_room {t e : TypeId} {z : Value} {bytes : Nat} (ht : Try.prog.underlying t = some (.slice e)) (hi : (Try.prog.info? e).map (fun i => (i.zero, i.size, i.bytes)) = some (some z, size, bytes)) (hzs : z.cells.size = size) (n : Nat) (hn : n ≤ 2147483648) (hb : n * bytes ≤ 140737488355328) (en : α → List Value) :
    ∃ M : Array Value, ∀ W : World, (Instr.makeSlice t (.int .i64 0) (.int .i64 (n : Int))).run Try.prog W = .ok (.slice (some ⟨W.heap.size, 0, none⟩) 0 n) (W.alloc (.cells M e)) ∧ LR size en (W.alloc (.cells M e)) (.slice (some ⟨W.heap.size, 0, none⟩) 0 n) ([] : List α) := by
  obtain ⟨i, hi, z0, z1, z2⟩ := info_parts hi
  refine ⟨madeCells z.cells (((n : Nat) : Int).toNat * i.size), fun W => ⟨?_, ?_, fun k hk => by cases hk⟩⟩
  · have h := run_make (P := Try.prog) W t e i z ht hi z0 .i64 .i64 0 (n : Int) (by omega) (by omega) (by rw [z2, Int.mul_comm]; omega) (by omega)
    simpa using h
  · have hh := heap_alloc_new W (.cells (madeCells z.cells (((n : Nat) : Int).toNat * i.size)) e)
    refine .inr ⟨W.heap.size, n, rfl, by simp, Nat.zero_le _, by unfold maxLen; omega, fun j hj => ⟨?_, ?_⟩⟩
    · have : (W.alloc (.cells (madeCells z.cells (((n : Nat) : Int).toNat * i.size)) e)).cell? ⟨W.heap.size, j, none⟩ = (madeCells z.cells (((n : Nat) : Int).toNat * i.size))[j]? := World.cell?_alloc_mark W _ _ _ j
      rw [this, Array.getElem?_eq_getElem (by rw [size_madeCells, z1]; simpa using hj)]; rfl
    · simp only [World.frozen?, hh]; simp
end

/-- values as they stand: kind and number -/
abbrev Rf := Int × Int
def eR (r : Rf) : List Value := [.int .i64 r.1, .int .i64 r.2]
def eU (x : Int) : List Value := [.int .u64 x]
def eI (x : Int) : List Value := [.int .i64 x]
/-- a thing as it stands -/
structure Th where
  kind : Int
  tag : Int
  bytes : ByteArray
  rv : Value
  refs : List Rf
def eT (t : Th) : List Value := [.int .i64 t.kind, .int .i64 t.tag, .string t.bytes, t.rv]
def Th.val (t : Th) : Value := .agg #[.int .i64 t.kind, .int .i64 t.tag, .string t.bytes, t.rv]
def i64ok (n : Int) : Prop := -9223372036854775808 ≤ n ∧ n ≤ 9223372036854775807

/-- a thing that can be read -/
structure TA (w : World) (t : Th) : Prop where
  refs : LD 2 eR w t.rv t.refs
  kind : i64ok t.kind
  tag : i64ok t.tag
  rok : ∀ r ∈ t.refs, i64ok r.1 ∧ i64ok r.2
  bytes : t.bytes.size ≤ 1073741824
  len : t.refs.length ≤ 1073741824
theorem TA.no {w w' : World} {t : Th} (h : TA w t) (tn : Tn No w w') : TA w' t := ⟨h.refs.no tn, h.kind, h.tag, h.rok, h.bytes, h.len⟩

/-- a graph that can be read -/
structure GA (w : World) (tv rv : Value) (ts : List Th) (rs : List Rf) : Prop where
  things : LD 4 eT w tv ts
  each : ∀ t ∈ ts, TA w t
  roots : LD 2 eR w rv rs
  rok : ∀ r ∈ rs, i64ok r.1 ∧ i64ok r.2
  tlen : ts.length ≤ 1073741824
  rlen : rs.length ≤ 1073741824
theorem GA.no {w w' : World} {tv rv : Value} {ts : List Th} {rs : List Rf} (h : GA w tv rv ts rs) (tn : Tn No w w') : GA w' tv rv ts rs := ⟨h.things.no tn, fun t ht => (h.each t ht).no tn, h.roots.no tn, h.rok, h.tlen, h.rlen⟩

theorem ref_info : (Try.prog.info? 61).map (fun i => (i.zero, i.size, i.bytes)) = some (some (.agg #[.int .i64 0, .int .i64 0]), 2, 16) := by kernel_rfl
theorem thing_info : (Try.prog.info? 24).map (fun i => (i.zero, i.size, i.bytes)) = some (some (.agg #[.int .i64 0, .int .i64 0, .string ⟨#[]⟩, .slice none 0 0]), 4, 56) := by kernel_rfl
theorem u64_info : (Try.prog.info? 29).map (fun i => (i.zero, i.size, i.bytes)) = some (some (.int .u64 0), 1, 8) := by kernel_rfl
theorem i64_info : (Try.prog.info? 2).map (fun i => (i.zero, i.size, i.bytes)) = some (some (.int .i64 0), 1, 8) := by kernel_rfl
end Go.Proofs.Ytlkbnjdhokjfnaa
