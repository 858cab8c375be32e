/-
  heap: Read.
-/
import Derived.Test.YtlkbnjdhokjfnaaHRead4
namespace Go.Proofs.Ytlkbnjdhokjfnaa
set_option linter.unusedSimpArgs false
set_option linter.unusedVariables false
open Go.RowKit
attribute [local go_sem ↓] Go.wp_at_zero Go.wp_at_succ

/-- what Read answers -/
def ReadPost (b : List UInt8) (at_ : Nat) (roots : List Nat) (w : World) (e : Ending) (w' : World) : Prop :=
  (placeB (at_ : Int) (b.length : Int) = false ∧ e = .returned (.tuple #[.agg #[.slice none 0 0, .slice none 0 0], .int .i64 1]) ∧ Tn No w w') ∨
  (placeB (at_ : Int) (b.length : Int) = true ∧ ∃ tv rv out ros row, e = .returned (.tuple #[.agg #[tv, rv], .int .i64 0]) ∧ Made w tv rv out ros w' ∧ Hp.Walk (getN b at_) 0 (Hp.meet [] (roots.map Hp.value)) row ∧ out.map Th.nd = Hp.things (getN b at_) row ∧ ros.map vOf = Hp.roots row (roots.map Hp.value)) ∨
  (placeB (at_ : Int) (b.length : Int) = true ∧ e = .returned (.tuple #[.agg #[.slice none 0 0, .slice none 0 0], .int .i64 140]) ∧ Tn No w w' ∧ ∃ i row k, Hp.Steps (getN b at_) (Hp.meet [] (roots.map Hp.value)) i row ∧ row[i]? = some k ∧ getN b at_ k = none)

theorem set2_cells {u : World} {g : Nat} {x0 x1 : Value} (h0 : u.cell? ⟨g, 0, none⟩ = some x0) (h1 : u.cell? ⟨g, 1, none⟩ = some x1) (a a' : Value) : ((u.setCell ⟨g, 0, none⟩ a).setCell ⟨g, 1, none⟩ a').cell? ⟨g, 1, none⟩ = some a' ∧ (u.setCell ⟨g, 0, none⟩ a).cell? ⟨g, 0, none⟩ = some a := by
  have a1 : (u.setCell ⟨g, 0, none⟩ a).cell? ⟨g, 1, none⟩ = some x1 := by rw [World.cell?_setCell_other _ _ _ _ (by simp)]; exact h1
  exact ⟨World.cell?_setCell_same _ _ _ a1, World.cell?_setCell_same _ _ _ h0⟩

set_option maxHeartbeats 8000000 in
set_option maxRecDepth 100000 in
theorem Read_raw (v rvv : Value) (b : List UInt8) (at_ : Nat) (roots : List Nat) (w : World) (h : LD 1 eB w v b) (hb : b.length ≤ 1073741824) (hat : at_ < 18446744073709551616) (hr : LD 1 eU w rvv (Hp.cs roots)) (hrl : roots.length ≤ 1073741824) (hrw : ∀ x ∈ roots, x < 18446744073709551616) :
    Calls Try.prog 27 #[v, .int .u64 (at_ : Int), rvv] w (ReadPost b at_ roots w) := by
  have HPL := hid (fun u => place_raw (at_ : Int) (b.length : Int) u (by omega) (by omega))
  obtain ⟨q, hq⟩ : ∃ q, placeB (at_ : Int) (b.length : Int) = q := ⟨_, rfl⟩
  rw [hq] at HPL
  have HQ := hid hq
  have hh := heap_alloc_new w (.cells #[.slice none 0 0, .slice none 0 0] 27)
  have HR : Hid (∀ u, Tn No (w.alloc (.cells #[.slice none 0 0, .slice none 0 0] 27)) u → Calls Try.prog 51 #[.agg #[v, .int .u64 (at_ : Int)], rvv] u fun e w' => ∃ a1 n1 c1 a2 n2 c2 ok, e = .returned (.tuple #[.agg #[.slice a1 n1 c1, .slice a2 n2 c2], .bool ok]) ∧ (w'.cell? ⟨w.heap.size, 0, none⟩ = some (.slice none 0 0) ∧ w'.cell? ⟨w.heap.size, 1, none⟩ = some (.slice none 0 0) ∧ w'.frozen? ⟨w.heap.size, 0, none⟩ = false ∧ w'.frozen? ⟨w.heap.size, 1, none⟩ = false ∧ w.heap.size < w'.heap.size) ∧
      ((ok = true ∧ ∀ o a a', ∃ out ros row, Made w (.slice a1 n1 c1) (.slice a2 n2 c2) out ros (((w'.setCell ⟨w.heap.size, 0, none⟩ a).setCell ⟨w.heap.size, 1, none⟩ a').alloc o) ∧ Hp.Walk (getN b at_) 0 (Hp.meet [] (roots.map Hp.value)) row ∧ out.map Th.nd = Hp.things (getN b at_) row ∧ ros.map vOf = Hp.roots row (roots.map Hp.value)) ∨
       (ok = false ∧ (∀ o a a', Tn No w (((w'.setCell ⟨w.heap.size, 0, none⟩ a).setCell ⟨w.heap.size, 1, none⟩ a').alloc o)) ∧ ∃ i row k, Hp.Steps (getN b at_) (Hp.meet [] (roots.map Hp.value)) i row ∧ row[i]? = some k ∧ getN b at_ k = none))) := by
    apply hid
    intro u t
    have t0 := ((Tn.refl No w).alloc (.cells #[.slice none 0 0, .slice none 0 0] 27)).then t
    refine (read_raw v rvv b at_ roots u (h.no t0) hb hat (hr.no t0) hrl hrw).mono ?_
    have hz := t.size
    simp at hz
    have facts : ∀ w', Tn No u w' → (w'.cell? ⟨w.heap.size, 0, none⟩ = some (.slice none 0 0) ∧ w'.cell? ⟨w.heap.size, 1, none⟩ = some (.slice none 0 0) ∧ w'.frozen? ⟨w.heap.size, 0, none⟩ = false ∧ w'.frozen? ⟨w.heap.size, 1, none⟩ = false ∧ w.heap.size < w'.heap.size) := fun w' t' => by
      have b1 : w'.heap[w.heap.size]? = some (.cells #[.slice none 0 0, .slice none 0 0] 27 (0, 0)) := by rw [t'.block _ (by omega) (fun e => e), t.block _ (by simp) (fun e => e)]; exact hh
      have := t'.size
      exact ⟨by simp only [World.cell?, b1]; rfl, by simp only [World.cell?, b1]; rfl, by simp only [World.frozen?, b1]; rfl, by simp only [World.frozen?, b1]; rfl, by omega⟩
    rintro e w' (⟨tv, rv, out, ros, row, he, hmd, h1, h2, h3⟩ | ⟨he, tn, hno⟩)
    · obtain ⟨a1, c1, e1, _⟩ := hmd.go.things.rw.form
      obtain ⟨a2, c2, e2, _⟩ := hmd.go.roots.rw.form
      refine ⟨a1, _, c1, a2, _, c2, true, by rw [he, e1, e2], facts w' hmd.tn, .inl ⟨rfl, fun o a a' => ⟨out, ros, row, ?_, h1, h2, h3⟩⟩⟩
      have t9 : Tn (fun k => k = w.heap.size) w' (((w'.setCell ⟨w.heap.size, 0, none⟩ a).setCell ⟨w.heap.size, 1, none⟩ a').alloc o) := (((Tn.refl (fun k => k = w.heap.size) w').set _ _ (fun _ => rfl)).set _ _ (fun _ => rfl)).alloc o
      rw [← e1, ← e2]
      exact ⟨(hmd.go.kept t9 (fun k e => by omega)).lower (by omega), (t0.then hmd.tn).trans t9 (fun _ _ e => e) (fun i hi e => by omega), hmd.okt, hmd.okr⟩
    · refine ⟨none, 0, 0, none, 0, 0, false, he, facts w' tn, .inr ⟨rfl, fun o a a' => ?_, hno⟩⟩
      exact (((t0.then tn).set _ _ (by intro h; simp at h)).set _ _ (by intro h; simp at h)).alloc o
  obtain ⟨va, vk, hvf, _⟩ := h.form
  obtain ⟨ra, rc, hrf, _⟩ := hr.form
  subst hvf hrf
  have HT1 : Hid (∀ o, Tn No w (w.alloc o)) := hid (fun o => (Tn.refl No w).alloc o)
  clear h hr hq hh
  generalize (Hp.cs roots).length = rl at *
  cases q
  · clear HR
    go_enter Try.func27, Try.ntmps27
    go_wp2_with (go_at_call 46; refine (HPL.out _).mono ?_; rintro e w' ⟨rfl, rfl⟩)
    refine bodyPost_ret (v := .tuple #[.agg #[.slice none 0 0, .slice none 0 0], .int .i64 1]) (by simp [results, Try.results27, go_sem]) rfl ?_
    exact .inl ⟨HQ.out, rfl, HT1.out _⟩
  · go_enter Try.func27, Try.ntmps27
    go_wp2_with (first
      | (go_at_call 46; refine (HPL.out _).mono ?_; rintro e w' ⟨rfl, rfl⟩)
      | (go_at_call 51; refine (HR.out _ (by repeat (first | exact Tn.refl _ _ | apply Tn.drew | apply Tn.drewN | apply Tn.alloc | (refine Tn.then ?_ (by assumption)) | (refine Tn.thenNo ?_ (by assumption))))).mono ?_; rintro e w2 ⟨a1, n1, c1, a2, n2, c2, ok, rfl, ⟨y0, y1, y2, y3, y4⟩, hfin⟩; have HFIN := hid hfin; clear hfin; cases ok))
    · have hf := HFIN.out.resolve_left (fun h => by cases h.1)
      obtain ⟨_, hf1, hf2⟩ := hf
      have HF1 := hid hf1
      have HF2 := hid hf2
      clear HFIN hf1 hf2
      have K2 := hid (set2_cells y0 y1)
      go_wp2
      refine bodyPost_ret (v := .tuple #[.agg #[.slice none 0 0, .slice none 0 0], .int .i64 140]) (by simp [results, Try.results27, go_sem, (K2.out _ _).1, (K2.out _ (.int .i64 0)).2, y4]) rfl ?_
      exact .inr (.inr ⟨HQ.out, rfl, HF1.out _ _ _, HF2.out⟩)
    · have hf := HFIN.out.resolve_right (fun h => by cases h.1)
      have HF1 := hid hf.2
      clear HFIN hf
      have K2 := hid (set2_cells y0 y1)
      go_wp2
      refine bodyPost_ret (v := .tuple #[.agg #[.slice a1 n1 c1, .slice a2 n2 c2], .int .i64 0]) (by simp [results, Try.results27, go_sem, (K2.out _ _).1, (K2.out _ (.int .i64 0)).2, y4]) rfl ?_
      obtain ⟨out, ros, row, z1, z2, z3, z4⟩ := HF1.out (.cells #[.slice a1 n1 c1, .slice a2 n2 c2] 27) (.slice a1 n1 c1) (.slice a2 n2 c2)
      exact .inr (.inl ⟨HQ.out, _, _, out, ros, row, rfl, z1, z2, z3, z4⟩)
end Go.Proofs.Ytlkbnjdhokjfnaa
