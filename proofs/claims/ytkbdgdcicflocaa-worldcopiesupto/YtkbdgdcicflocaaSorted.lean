/-
  The files' names, sorted, as the program takes them.
-/
import Derived.Test.YtkbdgdcicflocaaRefA
import Derived.Test.YtkbdgdcicflocaaKeys
namespace Go.Proofs.Ytkbdgdcicflocaa
set_option linter.unusedSimpArgs false
set_option linter.unusedVariables false
open Go.RowKit
attribute [local go_sem ↓] Go.wp_at_zero Go.wp_at_succ

/-- the files' names -/
def nms (fl : List (ByteArray × List UInt8)) : List (List UInt8) := fl.map (fun f => f.1.data.toList)
theorem nms_nodup {fl : List (ByteArray × List UInt8)} (hup : fl.Pairwise (fun a b => a.1.data.toList < b.1.data.toList)) : (nms fl).Nodup := by
  unfold nms
  refine List.pairwise_map.2 (hup.imp ?_)
  intro a b h e
  rw [e] at h
  exact List.lt_irrefl _ h
theorem nms_sorted {fl : List (ByteArray × List UInt8)} (hup : fl.Pairwise (fun a b => a.1.data.toList < b.1.data.toList)) : (nms fl).mergeSort (fun x y => decide (x ≤ y)) = nms fl := by
  refine List.mergeSort_of_pairwise ?_
  unfold nms
  refine List.pairwise_map.2 (hup.imp ?_)
  intro a b h
  simp only [decide_eq_true_eq]
  exact List.le_of_lt h
theorem nms_mem (fl : List (ByteArray × List UInt8)) (x : List UInt8) : x ∈ nms fl ↔ (fsOf fl x).isSome = true := by
  unfold nms fsOf
  rw [Option.isSome_map, List.find?_isSome, List.mem_map]
  simp
theorem fsOf_at {fl : List (ByteArray × List UInt8)} (hup : fl.Pairwise (fun a b => a.1.data.toList < b.1.data.toList)) (i : Nat) (f : ByteArray × List UInt8) (h : fl[i]? = some f) : fsOf fl f.1.data.toList = some f.2 := by
  unfold fsOf
  induction fl generalizing i with
  | nil => simp at h
  | cons g gl ih =>
    rw [List.find?_cons]
    rw [List.pairwise_cons] at hup
    cases i with
    | zero =>
      have : g = f := by simpa using h
      subst this
      simp
    | succ i =>
      have h' : gl[i]? = some f := by simpa using h
      have hlt := hup.1 f (List.mem_of_getElem? h')
      have hne : ¬ g.1.data.toList = f.1.data.toList := fun e => by rw [e] at hlt; exact List.lt_irrefl _ hlt
      rw [decide_eq_false hne]
      exact ih hup.2 i h'

/-- the names, as the map has them -/
theorem fm_keys {w : World} {L : Nat → Option Lab} {N b : Nat} {fl : List (ByteArray × List UInt8)} (h : FM w L N (some b) (fsOf fl)) (hup : fl.Pairwise (fun a b => a.1.data.toList < b.1.data.toList)) :
    ∃ n D, w.ownsMap Try.prog 9 rawElem b n D ∧ (nms fl).Perm (strKeys D) ∧ Maps.size D = fl.length := by
  rcases h with ⟨e, _⟩ | ⟨b', n, D, e, hn, hb, hown, hf⟩
  · cases e
  · cases e
    have hp : (nms fl).Perm (strKeys D) := Collected.perm (left := fun _ => false) ⟨nms_nodup hup, fun x => by rw [nms_mem, (hf x).1]; simp⟩ hown law9 Try.underlying9 (fun _ => rfl)
    refine ⟨n, D, hown, hp, ?_⟩
    have hl := hp.length_eq
    obtain ⟨es, rfl, _⟩ := hown.keysOf
    have : (strKeys (DataW.map es)).length = es.length := by simp [strKeys]
    show es.length = _
    rw [← this, ← hl]
    simp [nms]

theorem Tn.of_below {a b : World} (h : Below a.heap.size a b) : Tn No a b := ⟨h.os, h.tape, h.output, h.size, fun k hk _ => h.block k hk⟩

/-- slices.Sorted of maps.Keys -/
def SortPost (w : World) (l : List (List UInt8)) (e : Ending) (w' : World) : Prop :=
  ∃ a cap, e = .returned (.slice a l.length cap) ∧ l.length ≤ cap ∧ cap ≤ 9223372036854775807 ∧ (a = none → l.length = 0) ∧ (∀ x, a = some x → x = ⟨x.block, 0, none⟩ ∧ w.heap.size ≤ x.block ∧ x.block < w'.heap.size ∧ ∀ i s, l[i]? = some s → w'.cell? ⟨x.block, i, none⟩ = some (.string ⟨s.toArray⟩)) ∧ Tn No w w'

theorem sort_post {w u : World} {v : Value} {l : List (List UInt8)} (hw : w.heap.size ≤ u.heap.size) (h : u.ownsRow w.heap.size 9 1 v l.length (l.map encStr)) (t : Tn No w u) : SortPost w l (.returned v) u := by
  obtain ⟨hl, h⟩ := h
  rcases h with ⟨rfl, h0⟩ | ⟨g, cap, cur, rfl, hg, hb, h1, h2, h3, h4⟩
  · exact ⟨none, 0, by rw [h0], by omega, by omega, fun _ => h0, fun x hx => (by cases hx), t⟩
  · refine ⟨_, cap, rfl, h1, by unfold maxLen at h2; omega, fun e => (by cases e), fun x hx => ?_, t⟩
    cases hx
    refine ⟨rfl, hg, (Array.getElem?_eq_some_iff.1 hb).1, fun i s hs => ?_⟩
    have hlt := (List.getElem?_eq_some_iff.1 hs).1
    have hc : cur[i]? = some (encStr s) := by
      rw [← Array.getElem?_toList]
      have := congrArg (fun z => z[i]?) h4
      simp only [List.getElem?_take, List.getElem?_map, hs] at this
      rw [if_pos (by omega)] at this
      simpa using this
    simp only [World.cell?, hb]
    simpa [encStr] using hc

theorem sorted_keys {w : World} {L : Nat → Option Lab} {N : Nat} {mo : Option Nat} {fl : List (ByteArray × List UInt8)} (h : FM w L N mo (fsOf fl)) (hup : fl.Pairwise (fun a b => a.1.data.toList < b.1.data.toList)) (hN : fl.length ≤ 1099511627776) :
    Calls Try.prog 61 #[.func (.func 67) #[] #[.pointer (some ⟨w.heap.size, 0, none⟩)]] (w.alloc (.cells #[.map mo] 65)) (SortPost (w.alloc (.cells #[.map mo] 65)) (nms fl)) := by
  cases mo with
  | none =>
    have h0 : fl = [] := by
      rcases h with ⟨_, hf⟩ | ⟨_, _, _, e, _⟩
      · cases fl with
        | nil => rfl
        | cons f r =>
          have := hf f.1.data.toList
          rw [fsOf_at hup 0 f rfl] at this
          cases this
      · cases e
    subst h0
    refine (callsIn_wide.1 (slices_Sorted_keys_nil_61_62 w)).mono ?_
    rintro e w' ⟨v, ss, rfl, rfl, hrow, hnil, hb⟩
    exact sort_post hb.size (by simpa [nms] using hrow) (Tn.of_below hb)
  | some b =>
    obtain ⟨n, D, hown, hp, hs⟩ := fm_keys h hup
    refine (callsIn_wide.1 (slices_Sorted_keys_61_62 b n D rawElem w hown (by rw [hs]; unfold maxLen; omega) (by rw [hs]; omega))).mono ?_
    rintro e w' ⟨v, ss, rfl, hS, hrow, hnil, hb⟩
    have hsn : ss.Perm (nms fl) := hS.trans hp.symm
    have e1 : ss.mergeSort (fun x y => decide (x ≤ y)) = nms fl := (mergeSort_of_perm hsn).trans (nms_sorted hup)
    rw [e1, hsn.length_eq] at hrow
    exact sort_post hb.size hrow (Tn.of_below hb)
end Go.Proofs.Ytkbdgdcicflocaa
