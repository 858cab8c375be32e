/-
  heap: the statements' own graph.
-/
import Derived.Test.YtlkbnjdhokjfnaaHRead6
import Derived.Test.YtlkbnjdhokjfnaaHReadEq
namespace Go.Proofs.Ytlkbnjdhokjfnaa
set_option linter.unusedSimpArgs false
set_option linter.unusedVariables false
open Go.RowKit
attribute [local go_sem ↓] Go.wp_at_zero Go.wp_at_succ

def loopRefs : List Rf := [(2, 1), (2, 0), (1, -1)]
def loopT0 : Th := ⟨2, 0, ⟨#[97, 98, 99]⟩, .slice none 0 0, []⟩
def loopT1 (g : Nat) : Th := ⟨1, 2, ⟨#[]⟩, .slice (some ⟨g, 0, none⟩) 3 3, loopRefs⟩
def LoopPost (w : World) (e : Ending) (w' : World) : Prop := ∃ g h k, e = .returned (.agg #[.slice (some ⟨h, 0, none⟩) 2 2, .slice (some ⟨k, 0, none⟩) 1 1]) ∧ GA w' (.slice (some ⟨h, 0, none⟩) 2 2) (.slice (some ⟨k, 0, none⟩) 1 1) [loopT0, loopT1 g] [(2, 1)] ∧ Tn No w w'

theorem loop_ga (w : World) (A : Array Value) (TA' : TypeId) : GA ((((w.alloc (.cells A TA')).alloc (.cells #[.int .i64 2, .int .i64 1, .int .i64 2, .int .i64 0, .int .i64 1, .int .i64 (-1)] 61)).alloc (.cells #[.int .i64 2, .int .i64 0, .string ⟨#[97, 98, 99]⟩, .slice none 0 0, .int .i64 1, .int .i64 2, .string ⟨#[]⟩, .slice (some ⟨w.heap.size + 1, 0, none⟩) 3 3] 24)).alloc (.cells #[.int .i64 2, .int .i64 1] 61))
    (.slice (some ⟨w.heap.size + 1 + 1, 0, none⟩) 2 2) (.slice (some ⟨w.heap.size + 1 + 1 + 1, 0, none⟩) 1 1) [loopT0, loopT1 (w.heap.size + 1)] [(2, 1)] := by
  obtain ⟨w1, h1⟩ : ∃ w1, w.alloc (.cells A TA') = w1 := ⟨_, rfl⟩
  rw [h1]
  have s1 : w1.heap.size = w.heap.size + 1 := by rw [← h1]; simp
  obtain ⟨w2, h2⟩ : ∃ w2, w1.alloc (.cells #[.int .i64 2, .int .i64 1, .int .i64 2, .int .i64 0, .int .i64 1, .int .i64 (-1)] 61) = w2 := ⟨_, rfl⟩
  rw [h2]
  have s2 : w2.heap.size = w.heap.size + 1 + 1 := by rw [← h2]; simp [s1]
  have b2 : w2.heap[w.heap.size + 1]? = some (.cells #[.int .i64 2, .int .i64 1, .int .i64 2, .int .i64 0, .int .i64 1, .int .i64 (-1)] 61 (0, 0)) := by rw [← h2, ← s1]; exact heap_alloc_new w1 _
  obtain ⟨w3, h3⟩ : ∃ w3, w2.alloc (.cells #[.int .i64 2, .int .i64 0, .string ⟨#[97, 98, 99]⟩, .slice none 0 0, .int .i64 1, .int .i64 2, .string ⟨#[]⟩, .slice (some ⟨w.heap.size + 1, 0, none⟩) 3 3] 24) = w3 := ⟨_, rfl⟩
  rw [h3]
  have s3 : w3.heap.size = w.heap.size + 1 + 1 + 1 := by rw [← h3]; simp [s2]
  have b3 : w3.heap[w.heap.size + 1 + 1]? = some (.cells #[.int .i64 2, .int .i64 0, .string ⟨#[97, 98, 99]⟩, .slice none 0 0, .int .i64 1, .int .i64 2, .string ⟨#[]⟩, .slice (some ⟨w.heap.size + 1, 0, none⟩) 3 3] 24 (0, 0)) := by rw [← h3, ← s2]; exact heap_alloc_new w2 _
  have b32 := (show w3.heap[w.heap.size + 1]? = w2.heap[w.heap.size + 1]? by rw [← h3]; exact Below.heap_alloc _ _ _ (by omega)).trans b2
  obtain ⟨w4, h4⟩ : ∃ w4, w3.alloc (.cells #[.int .i64 2, .int .i64 1] 61) = w4 := ⟨_, rfl⟩
  rw [h4]
  have s4 : w4.heap.size = w.heap.size + 1 + 1 + 1 + 1 := by rw [← h4]; simp [s3]
  have c4 : w4.heap[w.heap.size + 1 + 1 + 1]? = some (.cells #[.int .i64 2, .int .i64 1] 61 (0, 0)) := by rw [← h4, ← s3]; exact heap_alloc_new w3 _
  have c3 := (show w4.heap[w.heap.size + 1 + 1]? = w3.heap[w.heap.size + 1 + 1]? by rw [← h4]; exact Below.heap_alloc _ _ _ (by omega)).trans b3
  have c2 := (show w4.heap[w.heap.size + 1]? = w3.heap[w.heap.size + 1]? by rw [← h4]; exact Below.heap_alloc _ _ _ (by omega)).trans b32
  refine ⟨⟨_, 2, rfl, by simp, by omega, fun _ => ⟨_, 0, rfl, by omega, ?_⟩⟩, ?_, ⟨_, 1, rfl, by simp, by omega, fun _ => ⟨_, 0, rfl, by omega, ?_⟩⟩, ?_, by simp, by simp⟩
  · intro i hi j hj
    simp only [World.cell?, c3]
    have hi' : i < 2 := hi
    match i, hi', j, hj with
    | 0, _, 0, _ => rfl
    | 0, _, 1, _ => rfl
    | 0, _, 2, _ => rfl
    | 0, _, 3, _ => rfl
    | 1, _, 0, _ => rfl
    | 1, _, 1, _ => rfl
    | 1, _, 2, _ => rfl
    | 1, _, 3, _ => rfl
  · intro t ht
    simp only [List.mem_cons, List.not_mem_nil, or_false] at ht
    rcases ht with rfl | rfl
    · exact ⟨LD.nil _ _ _, by simp [i64ok, loopT0], by simp [i64ok, loopT0], (by intro r hr; cases hr), by simp [loopT0, ByteArray.size], by simp [loopT0]⟩
    · refine ⟨⟨_, 3, rfl, by simp [loopT1, loopRefs], by omega, fun _ => ⟨_, 0, rfl, by omega, ?_⟩⟩, by simp [i64ok, loopT1], by simp [i64ok, loopT1], ?_, by simp [loopT1, ByteArray.size], by simp [loopT1, loopRefs]⟩
      · intro i hi j hj
        simp only [World.cell?, c2]
        have hi' : i < 3 := hi
        match i, hi', j, hj with
        | 0, _, 0, _ => rfl
        | 0, _, 1, _ => rfl
        | 1, _, 0, _ => rfl
        | 1, _, 1, _ => rfl
        | 2, _, 0, _ => rfl
        | 2, _, 1, _ => rfl
      · intro r hr
        simp only [loopT1, loopRefs, List.mem_cons, List.not_mem_nil, or_false] at hr
        rcases hr with rfl | rfl | rfl <;> simp [i64ok]
  · intro i hi j hj
    simp only [World.cell?, c4]
    have hi' : i < 1 := hi
    match i, hi', j, hj with
    | 0, _, 0, _ => rfl
    | 0, _, 1, _ => rfl
  · intro r hr
    simp only [List.mem_cons, List.not_mem_nil, or_false] at hr
    subst hr
    simp [i64ok]

set_option maxRecDepth 100000 in
theorem loop_raw (w : World) : Calls Try.prog 37 #[] w (LoopPost w) := by
  go_enter Try.func37, Try.ntmps37
  go_wp2
  refine bodyPost_ret (v := .agg #[.slice (some ⟨w.heap.size + 1 + 1, 0, none⟩) 2 2, .slice (some ⟨w.heap.size + 1 + 1 + 1, 0, none⟩) 1 1]) (by simp [results, Try.results37, go_sem]) rfl ?_
  exact ⟨_, _, _, rfl, loop_ga w _ _, (by repeat (first | exact Tn.refl _ _ | apply Tn.drew | apply Tn.drewN | apply Tn.alloc | (refine Tn.then ?_ (by assumption)) | (refine Tn.thenNo ?_ (by assumption))))⟩
end Go.Proofs.Ytlkbnjdhokjfnaa
