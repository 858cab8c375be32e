/-
  heap: the statements' own example, walked.
-/
import Derived.Test.YtlkbnjdhokjfnaaHPlA
namespace Go.Proofs.Ytlkbnjdhokjfnaa
set_option linter.unusedSimpArgs false
set_option linter.unusedVariables false
open Go.RowKit
attribute [local go_sem ↓] Go.wp_at_zero Go.wp_at_succ

/-- what Lay says of the example -/
theorem lay_loop (g h k : Nat) (u : World) (hg : GA u (.slice (some ⟨h, 0, none⟩) 2 2) (.slice (some ⟨k, 0, none⟩) 1 1) [loopT0, loopT1 g] [(2, 1)]) :
    Calls Try.prog 25 #[.agg #[.slice (some ⟨h, 0, none⟩) 2 2, .slice (some ⟨k, 0, none⟩) 1 1], .int .u64 4096] u fun e w' => ∃ gb cb gr cr, e = .returned (.tuple #[.slice (some ⟨gb, 0, none⟩) 48 cb, .slice (some ⟨gr, 0, none⟩) 1 cr, .int .i64 0]) ∧ LD 1 eB w' (.slice (some ⟨gb, 0, none⟩) 48 cb) (layR (placesR 4096 [loopT0, loopT1 g]) [loopT0, loopT1 g]) ∧ LD 1 eU w' (.slice (some ⟨gr, 0, none⟩) 1 cr) (Hp.cs [4112]) ∧
      (w'.cell? ⟨gb, 0, none⟩ = some (.int .u8 5) ∧ w'.cell? ⟨gr, 0, none⟩ = some (.int .u64 4112) ∧ gb < w'.heap.size ∧ gr < w'.heap.size) ∧ Tn No u w' := by
  refine (lay_ok 4096 _ _ _ _ u hg (by omega) (by omega) (loop_may g) (by rw [loop_tot]; decide) (by rw [loop_tot]; omega)).mono ?_
  rintro e w' ⟨bv, rv, he, hl⟩
  have hlen : (layR (placesR 4096 [loopT0, loopT1 g]) [loopT0, loopT1 g]).length = 48 := by rw [layR_length, loop_tot]
  have hb := hl.bytes
  have hr := hl.roots
  rw [loop_words] at hr
  obtain ⟨gb, cb, e1, hgb, _⟩ := hb.rw.pos (by rw [hlen]; omega)
  obtain ⟨gr, cr, e2, hgr, _⟩ := hr.rw.pos (by simp)
  rw [hlen] at e1
  have e2' : rv = .slice (some ⟨gr, 0, none⟩) 1 cr := e2
  have f1 := hb.at' 0 (by rw [hlen]; omega) 0 (by omega)
  have f2 := hr.at' 0 (by simp) 0 (by omega)
  rw [e1] at f1
  rw [e2'] at f2
  have h5 : (layR (placesR 4096 [loopT0, loopT1 g]) [loopT0, loopT1 g])[0]'(by rw [hlen]; omega) = 5 := by
    have := loop_first g
    rw [List.getElem?_eq_getElem (by rw [hlen]; omega)] at this
    exact Option.some.inj this
  rw [h5] at f1
  refine ⟨gb, cb, gr, cr, by rw [he, e1, e2'], e1 ▸ hb.ld, e2' ▸ hr.ld, ⟨f1, f2, hgb, hgr⟩, hl.tn⟩

/-- what Read says of it -/
theorem read_loop (g gb cb gr cr : Nat) (u : World) (h1 : LD 1 eB u (.slice (some ⟨gb, 0, none⟩) 48 cb) (layR (placesR 4096 [loopT0, loopT1 g]) [loopT0, loopT1 g])) (h2 : LD 1 eU u (.slice (some ⟨gr, 0, none⟩) 1 cr) (Hp.cs [4112])) :
    Calls Try.prog 27 #[.slice (some ⟨gb, 0, none⟩) 48 cb, .int .u64 4096, .slice (some ⟨gr, 0, none⟩) 1 cr] u fun e w' => ∃ ht ct a2 n2 c2, e = .returned (.tuple #[.agg #[.slice (some ⟨ht, 0, none⟩) 2 ct, .slice a2 n2 c2], .int .i64 0]) ∧ (w'.cell? ⟨ht, 1, none⟩ = some (.int .i64 2) ∧ w'.cell? ⟨ht, 6, none⟩ = some (.string ⟨#[97, 98, 99]⟩) ∧ ht < w'.heap.size) ∧ 2 ≤ ct ∧ KnownG u (.slice (some ⟨ht, 0, none⟩) 2 ct) (.slice a2 n2 c2) w' := by
  have hlen : (layR (placesR 4096 [loopT0, loopT1 g]) [loopT0, loopT1 g]).length = 48 := by rw [layR_length, loop_tot]
  refine (Read_raw _ _ _ 4096 [4112] u h1 (by rw [hlen]; omega) (by omega) h2 (by simp) (by intro x hx; simp at hx; omega)).mono ?_
  intro e w' hp
  obtain ⟨tv, rv, out, ros, he, hmd, e1, e2⟩ := read_of_canon hp (by rw [hlen]; decide) (loop_back g)
  have hol : out.length = 2 := by have := congrArg List.length e1; simpa [loopCs] using this
  obtain ⟨ht, ct, et, hht, hct, _⟩ := hmd.go.things.rw.pos (by rw [hol]; omega)
  rw [hol] at et hct
  obtain ⟨a2, c2, er, _⟩ := hmd.go.roots.rw.form
  obtain ⟨t0, t1, rfl⟩ : ∃ t0 t1, out = [t0, t1] := by
    rcases out with _ | ⟨t0, _ | ⟨t1, _ | ⟨t2, l⟩⟩⟩
    · simp at hol
    · simp at hol
    · exact ⟨t0, t1, rfl⟩
    · simp at hol
  simp only [List.map_cons, List.map_nil, loopCs, List.cons.injEq, and_true] at e1
  have k0 : t0.tag = 2 := by have := congrArg Hp.Nd.tag e1.1; exact this
  have k1 : t1.bytes = ⟨#[97, 98, 99]⟩ := by
    have := congrArg Hp.Nd.bytes e1.2
    exact WideShapes.bytes_inj this
  have f1 := hmd.go.things.at' 0 (by simp) 1 (by omega)
  have f2 := hmd.go.things.at' 1 (by simp) 2 (by omega)
  rw [et] at f1 f2
  refine ⟨ht, ct, a2, _, c2, by rw [he, et, er], ⟨?_, ?_, hht⟩, hct, ⟨hmd.tn, _, ros, by rw [← et, ← er]; exact hmd.go.ga, hmd.okt, hmd.okr, ?_, e2⟩⟩
  · have : w'.cell? ⟨ht, 1, none⟩ = some (.int .i64 t0.tag) := f1
    rw [this, k0]
  · have : w'.cell? ⟨ht, 6, none⟩ = some (.string t1.bytes) := f2
    rw [this, k1]
  · simp only [List.map_cons, List.map_nil, loopCs]
    rw [e1.1, e1.2]

set_option maxHeartbeats 8000000 in
set_option maxRecDepth 100000 in
theorem known_raw (w : World) : Calls Try.prog 15 #[] w fun e w' => e = .returned (.bool true) ∧ Tn No w w' := by
  have HLP := hid loop_raw
  have HLY := hid lay_loop
  have HRD := hid read_loop
  go_enter Try.func15, Try.ntmps15
  go_wp2_with (first
    | (go_at_call 37; refine (HLP.out _).mono ?_; rintro e w1 ⟨g, h, k, rfl, ga1, t1⟩; have HG1 := hid ga1; have HT1 := hid t1; clear ga1 t1)
    | (go_at_call 25; refine (HLY.out g h k _ HG1.out).mono ?_; rintro e w2 ⟨gb, cb, gr, cr, rfl, l1, l2, ⟨y0, y1, y2, y3⟩, t2⟩; have HL1 := hid l1; have HL2 := hid l2; have HT2 := hid t2; clear l1 l2 t2)
    | (go_at_call 27; refine (HRD.out g gb cb gr cr _ HL1.out HL2.out).mono ?_; rintro e w3 ⟨ht, ct, a2, n2, c2, rfl, ⟨x0, x1, x2⟩, x3, kg⟩; have HKG := hid kg; have y0' := kg.tn.cell (o := 0) y2 (fun e => e); have y1' := kg.tn.cell (o := 0) y3 (fun e => e); rw [y0] at y0'; rw [y1] at y1'; have zb := Nat.lt_of_lt_of_le y2 kg.tn.size; have zr := Nat.lt_of_lt_of_le y3 kg.tn.size; clear kg y0 y1 y2 y3))
  obtain ⟨W, hW⟩ : ∃ W, w3.alloc (.cells #[.slice (some ⟨ht, 0, none⟩) 2 ct, .slice a2 n2 c2] 27) = W := ⟨_, rfl⟩
  have tW : Tn No w3 W := by rw [← hW]; exact (Tn.refl No w3).alloc _
  have sW : W.heap.size = w3.heap.size + 1 := by rw [← hW]; simp
  have bW : W.heap[w3.heap.size]? = some (.cells #[.slice (some ⟨ht, 0, none⟩) 2 ct, .slice a2 n2 c2] 27 (0, 0)) := by rw [← hW]; exact heap_alloc_new w3 _
  have HS : ∀ w', Tn No W w' → (w'.cell? ⟨gb, 0, none⟩ = some (.int .u8 5) ∧ w'.cell? ⟨gr, 0, none⟩ = some (.int .u64 4112) ∧ w'.cell? ⟨w3.heap.size, 0, none⟩ = some (.slice (some ⟨ht, 0, none⟩) 2 ct) ∧ w'.cell? ⟨w3.heap.size, 1, none⟩ = some (.slice a2 n2 c2) ∧ w'.cell? ⟨ht, 1, none⟩ = some (.int .i64 2) ∧ w'.cell? ⟨ht, 6, none⟩ = some (.string ⟨#[97, 98, 99]⟩)) := fun w' t => by
    refine ⟨?_, ?_, ?_, ?_, ?_, ?_⟩
    · rw [t.cell (by omega) (fun e => e), tW.cell zb (fun e => e)]; exact y0'
    · rw [t.cell (by omega) (fun e => e), tW.cell zr (fun e => e)]; exact y1'
    · rw [t.cell (by omega) (fun e => e)]; simp only [World.cell?, bW]; rfl
    · rw [t.cell (by omega) (fun e => e)]; simp only [World.cell?, bW]; rfl
    · rw [t.cell (by omega) (fun e => e), tW.cell x2 (fun e => e)]; exact x0
    · rw [t.cell (by omega) (fun e => e), tW.cell x2 (fun e => e)]; exact x1
  have HLP2 : Hid (∀ u u', Tn No W u → Tn No u u' → Calls Try.prog 37 #[] u' fun e w' => ∃ g h k, e = .returned (.agg #[.slice (some ⟨h, 0, none⟩) 2 2, .slice (some ⟨k, 0, none⟩) 1 1]) ∧ (w'.cell? ⟨gb, 0, none⟩ = some (.int .u8 5) ∧ w'.cell? ⟨gr, 0, none⟩ = some (.int .u64 4112) ∧ w'.cell? ⟨w3.heap.size, 0, none⟩ = some (.slice (some ⟨ht, 0, none⟩) 2 ct) ∧ w'.cell? ⟨w3.heap.size, 1, none⟩ = some (.slice a2 n2 c2) ∧ w'.cell? ⟨ht, 1, none⟩ = some (.int .i64 2) ∧ w'.cell? ⟨ht, 6, none⟩ = some (.string ⟨#[97, 98, 99]⟩)) ∧ Tn No W w' ∧ GA w' (.slice (some ⟨h, 0, none⟩) 2 2) (.slice (some ⟨k, 0, none⟩) 1 1) [loopT0, loopT1 g] [(2, 1)]) := hid (fun u u' t t' => (loop_raw u').mono (fun e w' ⟨g, h, k, he, ga, tn⟩ => ⟨g, h, k, he, HS _ ((t.then t').then tn), (t.then t').then tn, ga⟩))
  have HSM : Hid (∀ u u' g h k, Tn No W u → Tn No u u' → GA u (.slice (some ⟨h, 0, none⟩) 2 2) (.slice (some ⟨k, 0, none⟩) 1 1) [loopT0, loopT1 g] [(2, 1)] → Calls Try.prog 21 #[.agg #[.slice (some ⟨ht, 0, none⟩) 2 ct, .slice a2 n2 c2], .agg #[.slice (some ⟨h, 0, none⟩) 2 2, .slice (some ⟨k, 0, none⟩) 1 1]] u' fun e w' => e = .returned (.bool true) ∧ (w'.cell? ⟨gb, 0, none⟩ = some (.int .u8 5) ∧ w'.cell? ⟨gr, 0, none⟩ = some (.int .u64 4112) ∧ w'.cell? ⟨w3.heap.size, 0, none⟩ = some (.slice (some ⟨ht, 0, none⟩) 2 ct) ∧ w'.cell? ⟨w3.heap.size, 1, none⟩ = some (.slice a2 n2 c2) ∧ w'.cell? ⟨ht, 1, none⟩ = some (.int .i64 2) ∧ w'.cell? ⟨ht, 6, none⟩ = some (.string ⟨#[97, 98, 99]⟩)) ∧ Tn No W w') := hid (fun u u' g h k t t' ga => by
    obtain ⟨out, ros, ga0, o1, o2, e1, e2⟩ := HKG.out.ex
    refine (same_raw _ _ _ _ _ _ _ _ u' (ga0.no (tW.then (t.then t'))) (ga.no t')).mono ?_
    rintro e w' ⟨q, he, tn, hq⟩
    have : q = true := hq.2 (same_loop o1 o2 e1 e2)
    subst this
    exact ⟨he, HS _ ((t.then t').then tn), (t.then t').then tn⟩)
  have HCK : Hid (∀ u u' g h k, Tn No W u → Tn No u u' → GA u (.slice (some ⟨h, 0, none⟩) 2 2) (.slice (some ⟨k, 0, none⟩) 1 1) [loopT0, loopT1 g] [(2, 1)] → Calls Try.prog 13 #[.agg #[.slice (some ⟨h, 0, none⟩) 2 2, .slice (some ⟨k, 0, none⟩) 1 1]] u' fun e w' => e = .returned (.int .i64 0) ∧ (w'.cell? ⟨gb, 0, none⟩ = some (.int .u8 5) ∧ w'.cell? ⟨gr, 0, none⟩ = some (.int .u64 4112) ∧ w'.cell? ⟨w3.heap.size, 0, none⟩ = some (.slice (some ⟨ht, 0, none⟩) 2 ct) ∧ w'.cell? ⟨w3.heap.size, 1, none⟩ = some (.slice a2 n2 c2) ∧ w'.cell? ⟨ht, 1, none⟩ = some (.int .i64 2) ∧ w'.cell? ⟨ht, 6, none⟩ = some (.string ⟨#[97, 98, 99]⟩)) ∧ Tn No W w') := hid (fun u u' g h k t t' ga => by
    refine (check_raw _ _ _ _ u' (ga.no t')).mono ?_
    rintro e w' ⟨he, tn⟩
    rw [loop_may] at he
    exact ⟨he, HS _ ((t.then t').then tn), (t.then t').then tn⟩)
  have HTW : Hid (Tn No w W) := hid (((HT1.out.then HT2.out).then HKG.out.tn).then tW)
  obtain ⟨S0, S1, S2, S3, S4, S5⟩ := HS W (Tn.refl _ _)
  clear HLP HLY HRD HG1 HL1 HL2 HT1 HT2 HKG HS y0' y1' x0 x1 x2 zb zr tW sW bW
  rw [hW]
  clear hW
  go_region_held3 (fun w' => w'.cell? ⟨gb, 0, none⟩ = some (.int .u8 5) ∧ w'.cell? ⟨gr, 0, none⟩ = some (.int .u64 4112) ∧ w'.cell? ⟨w3.heap.size, 0, none⟩ = some (.slice (some ⟨ht, 0, none⟩) 2 ct) ∧ w'.cell? ⟨w3.heap.size, 1, none⟩ = some (.slice a2 n2 c2) ∧ w'.cell? ⟨ht, 1, none⟩ = some (.int .i64 2) ∧ w'.cell? ⟨ht, 6, none⟩ = some (.string ⟨#[97, 98, 99]⟩)) (go_keep) (first
    | (go_at_call 13; refine (HCK.out w7 _ g7 h7 k7 HT7.out (by repeat (first | exact Tn.refl _ _ | apply Tn.drew | apply Tn.drewN | apply Tn.alloc | (refine Tn.then ?_ (by assumption)) | (refine Tn.thenNo ?_ (by assumption)))) HG7.out).mono ?_; rintro e w8 ⟨rfl, ⟨y0, y1, y2, y3, y4, y5⟩, t8⟩; have HT8 := hid t8; clear t8)
    | (go_at_call 37; refine (HLP2.out w6 _ HT6.out (by repeat (first | exact Tn.refl _ _ | apply Tn.drew | apply Tn.drewN | apply Tn.alloc | (refine Tn.then ?_ (by assumption)) | (refine Tn.thenNo ?_ (by assumption))))).mono ?_; rintro e w7 ⟨g7, h7, k7, rfl, ⟨y0, y1, y2, y3, y4, y5⟩, t7, ga7⟩; have HT7 := hid t7; have HG7 := hid ga7; clear t7 ga7)
    | (go_at_call 21; refine (HSM.out w5 _ g5 h5 k5 HT5.out (by repeat (first | exact Tn.refl _ _ | apply Tn.drew | apply Tn.drewN | apply Tn.alloc | (refine Tn.then ?_ (by assumption)) | (refine Tn.thenNo ?_ (by assumption)))) HG5.out).mono ?_; rintro e w6 ⟨rfl, ⟨y0, y1, y2, y3, y4, y5⟩, t6⟩; have HT6 := hid t6; clear t6)
    | (go_at_call 37; refine (HLP2.out W _ (Tn.refl No W) (by repeat (first | exact Tn.refl _ _ | apply Tn.drew | apply Tn.drewN | apply Tn.alloc | (refine Tn.then ?_ (by assumption)) | (refine Tn.thenNo ?_ (by assumption))))).mono ?_; rintro e w5 ⟨g5, h5, k5, rfl, ⟨y0, y1, y2, y3, y4, y5⟩, t5, ga5⟩; have HT5 := hid t5; have HG5 := hid ga5; clear t5 ga5))
  go_wp2
  go_ret
  exact ⟨rfl, HTW.out.then HT8.out⟩
end Go.Proofs.Ytlkbnjdhokjfnaa
