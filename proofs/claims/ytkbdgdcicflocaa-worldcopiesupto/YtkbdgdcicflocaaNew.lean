/-
  New of a world without files.
-/
import Derived.Test.YtkbdgdcicflocaaActs
namespace Go.Proofs.Ytkbdgdcicflocaa
set_option linter.unusedSimpArgs false
set_option linter.unusedVariables false
open Go.RowKit
attribute [local go_sem ↓] Go.wp_at_zero Go.wp_at_succ

/-- a world as it begins -/
def initDs : Nat → De := fun i => if i = 0 then ⟨1, ⟨#[]⟩, 0⟩ else if i = 1 then ⟨2, ⟨#[]⟩, 0⟩ else if i = 2 then ⟨3, ⟨#[]⟩, 0⟩ else noDe
def initSt (fs : List UInt8 → Option (List UInt8)) (s : ByteArray) : St := ⟨fs, s.data.toList, 0, initDs, []⟩

/-- what New leaves -/
def NewPost (w : World) (N : Nat) (S : St) (e : Ending) (w' : World) : Prop :=
  ∃ p L, e = .returned (.pointer (some ⟨p, 0, none⟩)) ∧ PW w' p L N S ∧ Tn No w w' ∧ ∀ k, L k ≠ none → w.heap.size ≤ k

theorem wpList_bytes (w : World) {ops : Array Oper} {rest : List Oper} {o : Oper} {a : Act} {Q : Exit → Act → World → Prop} (hg : o.guard = none) (x : Operand) (hop : o.op = Op.convert 9 64 x) (s : ByteArray) (hx : a.eval x = .string s) (hs : s.size ≤ maxLen)
    (hK : ∀ g cap w', BR w' (.slice (some ⟨g, 0, none⟩) s.size cap) s.data.toList → Tn No w w' → w.heap.size ≤ g → g < w'.heap.size → wpList Try.prog ops Q rest (a.put o.dst (.slice (some ⟨g, 0, none⟩) s.size cap)) w') : wpList Try.prog ops Q (o :: rest) a w := by
  refine wpList_plain hg fun K' hK' => ?_
  have hr := Lib.run_convert_string_bytes (P := Try.prog) w 9 64 5 s Try.underlying9 Try.underlying64 Try.underlying5
  obtain ⟨hbr, t⟩ := br_new w s hs
  unfold Oper.wp
  simp [execOp, hop, hx, hr, Result.andThen]
  exact hK' _ _ (hK _ _ _ hbr t (Nat.le_refl _) (hbr.lt _ rfl))

/-- the cells of a world as it begins -/
def initCells (iv : Value) : List Value := [.map none, iv, .int .i64 0, .int .i64 1, .string ⟨#[]⟩, .int .i64 0, .int .i64 2, .string ⟨#[]⟩, .int .i64 0, .int .i64 3, .string ⟨#[]⟩, .int .i64 0, .int .i64 0, .string ⟨#[]⟩, .int .i64 0, .int .i64 0, .string ⟨#[]⟩, .int .i64 0, .int .i64 0, .string ⟨#[]⟩, .int .i64 0, .int .i64 0, .string ⟨#[]⟩, .int .i64 0, .int .i64 0, .string ⟨#[]⟩, .int .i64 0, .int .i64 0, .string ⟨#[]⟩, .int .i64 0, .int .i64 0, .string ⟨#[]⟩, .int .i64 0, .int .i64 0, .string ⟨#[]⟩, .int .i64 0, .int .i64 0, .string ⟨#[]⟩, .int .i64 0, .int .i64 0, .string ⟨#[]⟩, .int .i64 0, .int .i64 0, .string ⟨#[]⟩, .int .i64 0, .int .i64 0, .string ⟨#[]⟩, .int .i64 0, .int .i64 0, .string ⟨#[]⟩, .int .i64 0, .int .i64 0, .string ⟨#[]⟩, .int .i64 0, .int .i64 0, .string ⟨#[]⟩, .int .i64 0, .int .i64 0, .string ⟨#[]⟩, .int .i64 0, .slice none 0 0]

theorem initCells_de (iv : Value) (i : Nat) (hi : i < 19) : (initCells iv)[3 + i * 3]? = some (.int .i64 (initDs i).kind) ∧ (initCells iv)[3 + i * 3 + 1]? = some (.string (initDs i).name) ∧ (initCells iv)[3 + i * 3 + 2]? = some (.int .i64 ((initDs i).place : Int)) := by
  rcases (by omega : i = 0 ∨ i = 1 ∨ i = 2 ∨ i = 3 ∨ i = 4 ∨ i = 5 ∨ i = 6 ∨ i = 7 ∨ i = 8 ∨ i = 9 ∨ i = 10 ∨ i = 11 ∨ i = 12 ∨ i = 13 ∨ i = 14 ∨ i = 15 ∨ i = 16 ∨ i = 17 ∨ i = 18) with rfl | rfl | rfl | rfl | rfl | rfl | rfl | rfl | rfl | rfl | rfl | rfl | rfl | rfl | rfl | rfl | rfl | rfl | rfl <;> exact ⟨rfl, rfl, rfl⟩

theorem init_px {w : World} {iv : Value} {s : ByteArray} {g : Nat} (hbr : BR w iv s.data.toList) (hg : iv.ownBlock = some g) :
    PW (w.alloc (.cells (initCells iv).toArray 71)) w.heap.size (upd (upd (fun _ => none) w.heap.size (some .st)) g (some .inp)) 0 (initSt (fun _ => none) s) := by
  have hgl := hbr.lt g hg
  have t : Tn No w (w.alloc (.cells (initCells iv).toArray 71)) := (by repeat (first | exact Tn.refl _ _ | apply Tn.drew | apply Tn.drewN | apply Tn.alloc | (refine Tn.then ?_ (by assumption)) | (refine Tn.thenNo ?_ (by assumption))))
  have hcell : ∀ i, (w.alloc (.cells (initCells iv).toArray 71)).cell? ⟨w.heap.size, i, none⟩ = (initCells iv)[i]? := fun i => by rw [World.cell?_alloc_new]; simp
  have hlen : (initCells iv).length = 61 := rfl
  refine ⟨fun i => (initCells iv).getD i (.bool false), none, iv, .slice none 0 0, fun _ => .slice none 0 0, ?_⟩
  refine { sc := ⟨by simp, fun i hi => ?_, fun i => ?_⟩, c0 := rfl, c1 := rfl, c2 := rfl, c60 := rfl, cd := fun i hi => ?_, pl := fun i hi => ?_, labs := ?_, lt := fun k hk => ?_, fm := .inl ⟨rfl, fun _ => rfl⟩, inp := hbr.no t, labi := fun g' hg' => ?_, rd := Nat.zero_le _, ew := ⟨RW.nil _ _, fun g h => (by cases h), Nat.le_refl _, fun i e h => (by simp [initSt] at h)⟩ }
  · rw [hcell, List.getD_eq_getElem?_getD, List.getElem?_eq_getElem (by omega)]; rfl
  · have hh := heap_alloc_new w (.cells (initCells iv).toArray 71)
    simp only [World.frozen?, hh]
    simp
  · obtain ⟨a, b, c⟩ := initCells_de iv i hi
    simp only [List.getD_eq_getElem?_getD, a, b, c]
    exact ⟨rfl, rfl, rfl⟩
  · have : (initDs i).place = 0 ∧ (initDs i).name.size = 0 := by
      unfold initDs noDe
      split
      · exact ⟨rfl, rfl⟩
      · split
        · exact ⟨rfl, rfl⟩
        · split <;> exact ⟨rfl, rfl⟩
    simp only [initSt]
    omega
  · rw [upd_other _ _ (by omega), upd_same]
  · have hs : (w.alloc (.cells (initCells iv).toArray 71)).heap.size = w.heap.size + 1 := by simp
    rw [hs]
    by_cases e1 : k = g
    · omega
    · rw [upd_other _ _ e1] at hk
      by_cases e2 : k = w.heap.size
      · omega
      · rw [upd_other _ _ e2] at hk; exact absurd rfl hk
  · rw [hg] at hg'; cases hg'; exact upd_same _ _ _

set_option maxHeartbeats 4000000 in
set_option maxRecDepth 100000 in
theorem new_nil (s : ByteArray) (w : World) (hs : s.size ≤ maxLen) :
    Calls Try.prog 9 #[.agg #[.string s, .slice none 0 0]] w (NewPost w 0 (initSt (fun _ => none) s)) := by
  go_enter Try.func9, Try.ntmps9
  go_wp2_with (refine wpList_bytes _ rfl (.tmp 7) rfl s rfl hs ?_; intro g cap w1 hbr t1 hg1 hg2; obtain ⟨o1, o2⟩ := t1.old; have hz1 := t1.size; simp at hz1; have q1 : w1.cell? ⟨w.heap.size, 1, none⟩ = some (.slice none 0 0) := (by rw [o1 _ _ (by simp), World.cell?_alloc_new]; rfl); have hlt : w.heap.size < w1.heap.size := hz1; clear o1 o2)
  refine wp_loop_rounds 1 ?_
  rw [rounds_succ]
  go_wp2
  go_ret
  have hp := init_px hbr rfl
  refine ⟨w1.heap.size, _, rfl, hp, (Tn.alloc (Tn.refl _ _) _ |>.then t1).alloc _, fun k hk => ?_⟩
  by_cases e1 : k = g
  · subst e1; simp at hg1; omega
  · rw [upd_other _ _ e1] at hk
    by_cases e2 : k = w1.heap.size
    · omega
    · rw [upd_other _ _ e2] at hk; exact absurd rfl hk
end Go.Proofs.Ytkbdgdcicflocaa
