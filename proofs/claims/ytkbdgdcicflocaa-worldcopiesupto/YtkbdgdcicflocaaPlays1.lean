/-
  The law WorldPlays: the files that it lays for itself.
-/
import Derived.Test.YtkbdgdcicflocaaWholeA
import Derived.Laws.MakeOwn
namespace Go.Proofs.Ytkbdgdcicflocaa
set_option linter.unusedSimpArgs false
set_option linter.unusedVariables false
open Go.RowKit
attribute [local go_sem ↓] Go.wp_at_zero Go.wp_at_succ

theorem wpList_cpy (w : World) {ops : Array Oper} {rest : List Oper} {o : Oper} {a : Act} {Q : Exit → Act → World → Prop} (hg : o.guard = none) (s x : Operand) (t tx : TypeId) (ho : o.op = .call { callee := .builtin .copy, args := #[s, x], argTypes := #[t, tx] })
    (v xv : Value) (hs : a.eval s = v) (hx : a.eval x = xv) (v' : Value) (w' : World) (hrun : (Builtin.copy_ #[t, tx] o.type #[v, xv]).run Try.prog w = .ok v' w')
    (hK : wpList Try.prog ops Q rest (a.put o.dst v') w') : wpList Try.prog ops Q (o :: rest) a w := by
  refine wpList_plain hg fun K' hK' => ?_
  unfold Oper.wp
  simp [execOp, ho, resolve, invoke, builtin, hs, hx, hrun, Result.andThen]
  exact hK' _ _ hK

theorem FilesAt.no {w w' : World} {a : Option Addr} {n M : Nat} {fl : List (ByteArray × ByteArray)} (h : FilesAt w a n M fl) (t : Tn No w w') : FilesAt w' a n M fl :=
  ⟨h.len, fun h0 => by
    obtain ⟨g, off, e, hg, hc⟩ := h.at' h0
    exact ⟨g, off, e, Nat.lt_of_lt_of_le hg t.size, fun j hj => ⟨(t.cell hg (fun e => e)).trans (hc j hj).1, (t.cell hg (fun e => e)).trans (hc j hj).2⟩⟩, h.big⟩

/-- what is laid for itself -/
structure Given (W3 : World) (g n : Nat) (fl : List (ByteArray × ByteArray)) (k : Nat) : Prop where
  rw : RW W3 2 (.slice (some ⟨g, 0, none⟩) n n) n
  at' : ∀ j (hj : j < fl.length), k ≤ j → W3.cell? ⟨g, j * 2, none⟩ = some (.string fl[j].1) ∧ W3.cell? ⟨g, j * 2 + 1, none⟩ = some (.string fl[j].2)

theorem given_raw (W1 : World) (a : Option Addr) (n cn M : Nat) (fl : List (ByteArray × ByteArray)) (hf : FilesAt W1 a n M fl) (hn : n ≤ 1099511627776) :
    ∃ C : Array Value, (∀ w, (Instr.makeSlice 22 (.int .i64 (n : Int)) (.int .i64 (n : Int))).run Try.prog w = .ok (.slice (some ⟨w.heap.size, 0, none⟩) n n) (w.alloc (.cells C 32))) ∧
      ∃ W3, (Builtin.copy_ #[22, 22] 3 #[.slice (some ⟨W1.heap.size, 0, none⟩) n n, .slice a n cn]).run Try.prog (W1.alloc (.cells C 32)) = .ok (.int .i64 (n : Int)) W3 ∧
        W3.heap.size = W1.heap.size + 1 ∧ Tn No W1 W3 ∧ Given W3 W1.heap.size n fl 0 := by
  obtain ⟨i0, hi, hz0, hz1, hz2⟩ := info_parts afi_info
  refine ⟨madeCells #[.string ⟨#[]⟩, .string ⟨#[]⟩] (n * 2), fun w => ?_, (W1.alloc (.cells (madeCells #[.string ⟨#[]⟩, .string ⟨#[]⟩] (n * 2)) 32)).setCells W1.heap.size 0 (fc fl), ?_, ?_, ?_, ?_⟩
  · have h := run_make (P := Try.prog) w 22 32 i0 _ Try.underlying22 hi hz0 .i64 .i64 (n : Int) (n : Int) (by omega) (Int.le_refl _) (by rw [hz2]; omega) (by omega)
    rw [hz1] at h
    simp only [Int.toNat_natCast] at h
    exact h
  all_goals
    have hCs : (madeCells #[.string ⟨#[]⟩, .string ⟨#[]⟩] (n * 2)).size = n * 2 := size_madeCells _ _
    obtain ⟨C, hC⟩ : ∃ C, madeCells #[.string ⟨#[]⟩, .string ⟨#[]⟩] (n * 2) = C := ⟨_, rfl⟩
    rw [hC] at hCs ⊢
    clear hC
    have hcell : ∀ j, j < n * 2 → ((W1.alloc (.cells C 32)).cell? ⟨W1.heap.size, 0 + j, none⟩).isSome = true := fun j hj => by
      rw [World.cell?_alloc_mark, Nat.zero_add]
      rw [Array.getElem?_eq_getElem (by omega)]; rfl
    have hfz : ∀ j, (W1.alloc (.cells C 32)).frozen? ⟨W1.heap.size, j, none⟩ = false := fun j => by
      simp only [World.frozen?, heap_alloc_new]
      simp
    have hlen := fc_length fl
    rw [hf.len] at hlen
    have t1 : Tn No W1 (W1.alloc (.cells C 32)) := (Tn.refl No W1).alloc _
  · by_cases h0 : n = 0
    · subst h0
      have e : fc fl = [] := List.eq_nil_of_length_eq_zero (by omega)
      rw [e]
      exact run_copy_norows _ _ _ _ 32 2 _ _ _ _ _ _ Try.underlying22 (by rw [hi]; simp [hz1]) rfl
    · obtain ⟨g, off, rfl, hg, hc⟩ := hf.at' (by omega)
      refine run_copy_rows _ _ _ _ 32 2 _ 0 n ⟨g, off, none⟩ n cn (fc fl) Try.underlying22 (by rw [hi]; simp [hz1]) hlen (fun j v hv => ?_) (fun j hj => hcell j (by omega)) (fun j _ => hfz _) (fc_one fl)
      obtain ⟨i, hi', ⟨rfl, rfl⟩ | ⟨rfl, rfl⟩⟩ := fc_get fl j v hv
      · rw [show (⟨g, off, none⟩ : Addr).add (i * 2) = ⟨g, off + i * 2, none⟩ by simp [Addr.add], t1.cell hg (fun e => e)]
        exact (hc i hi').1
      · rw [show (⟨g, off, none⟩ : Addr).add (i * 2 + 1) = ⟨g, off + i * 2 + 1, none⟩ by simp [Addr.add, Nat.add_assoc], t1.cell hg (fun e => e)]
        exact (hc i hi').2
  · rw [(setCells_rest _ _ _ _).2.2.2]
    simp
  · exact t1.trans (G := fun k => k = W1.heap.size) ⟨(setCells_rest _ _ _ _).1, (setCells_rest _ _ _ _).2.1, (setCells_rest _ _ _ _).2.2.1, by rw [(setCells_rest _ _ _ _).2.2.2]; exact Nat.le_refl _, fun k _ hk => setCells_other _ _ _ _ _ hk⟩ (fun _ _ e => e) (fun i hi e => by omega)
  · have hin := World.cell?_setCells_in W1.heap.size (fc fl) 0 (W1.alloc (.cells C 32)) (fun j hj => hcell j (by omega))
    refine ⟨.inr ⟨W1.heap.size, n, rfl, ?_, Nat.le_refl _, by unfold maxLen; omega, fun j hj => ⟨?_, ?_⟩⟩, fun j hj _ => ?_⟩
    · rw [(setCells_rest _ _ _ _).2.2.2]; simp
    · have := hin j (by omega)
      rw [Nat.zero_add] at this
      rw [this]; rfl
    · rw [World.frozen?_setCells]; exact hfz j
    · have h2 := fc_at fl j hj
      have hl : j < n := by rw [← hf.len]; exact hj
      refine ⟨?_, ?_⟩
      · have := hin (j * 2) (by omega)
        rw [Nat.zero_add] at this
        rw [this, ← h2.1, List.getElem?_eq_getElem]
      · have := hin (j * 2 + 1) (by omega)
        rw [Nat.zero_add] at this
        rw [this, ← h2.2, List.getElem?_eq_getElem]
end Go.Proofs.Ytkbdgdcicflocaa
