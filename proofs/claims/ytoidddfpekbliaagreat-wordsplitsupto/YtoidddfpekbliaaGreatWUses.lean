/-
  word: what an instruction reads and sets, told to whatever function. Made by gen_wuses.py.
-/
import Derived.Test.YtoidddfpekbliaaGreatWJ03
import Derived.Shelf.Abstract
namespace Go.Proofs.YtoidddfpekbliaaGreat
set_option linter.unusedSimpArgs false
set_option linter.unusedVariables false
open Go.RowKit
attribute [local go_sem ↓] Go.wp_at_zero Go.wp_at_succ

section
variable (K : Nat) (cs : Array Value) (F : Nat → Prop) (J : Nat → World → Prop) (k d a b l f cond real size imm : Int) (av : Value) (args : List Int) (w : World)

theorem use_at {pre post : List (Int × Int)} {args : List Int} (i : Nat) (hi : i < args.length) : (pre ++ (args.map (fun y => ((0 : Int), y)) ++ post))[i + pre.length]? = some (0, args[i]) := by
  rw [List.getElem?_append_right (by omega), Nat.add_sub_cancel, List.getElem?_append_left (by simpa using hi), List.getElem?_map, List.getElem?_eq_getElem hi]; rfl
theorem use_end {pre : List (Int × Int)} {p : Int × Int} {args : List Int} : (pre ++ (args.map (fun y => ((0 : Int), y)) ++ [p]))[args.length + pre.length]? = some p := by
  rw [List.getElem?_append_right (by omega), Nat.add_sub_cancel, List.getElem?_append_right (by simp)]; simp

/-- the cells of the instruction, as the function holds it -/
theorem uses_box (hF : ∀ i, F i → i < w.heap.size) : Hid (∀ u, Tn F (w.alloc (.cells #[.int .i64 k, .int .i64 d, .int .i64 a, .int .i64 b, .int .i64 l, .int .i64 f, .int .i64 cond, .int .i64 real, .int .i64 size, .int .i64 imm, av] 79)) u →
    u.cell? ⟨w.heap.size, 0, none⟩ = some (.int .i64 k) ∧ u.cell? ⟨w.heap.size, 1, none⟩ = some (.int .i64 d) ∧ u.cell? ⟨w.heap.size, 2, none⟩ = some (.int .i64 a) ∧ u.cell? ⟨w.heap.size, 3, none⟩ = some (.int .i64 b) ∧ u.cell? ⟨w.heap.size, 9, none⟩ = some (.int .i64 imm) ∧ u.cell? ⟨w.heap.size, 10, none⟩ = some av ∧ w.heap.size < u.heap.size) := by
  refine hid (fun u t => ?_)
  have hn : ¬ F w.heap.size := fun e => Nat.lt_irrefl _ (hF _ e)
  have hz : w.heap.size < (w.alloc (.cells #[.int .i64 k, .int .i64 d, .int .i64 a, .int .i64 b, .int .i64 l, .int .i64 f, .int .i64 cond, .int .i64 real, .int .i64 size, .int .i64 imm, av] 79)).heap.size := by simp
  have e : ∀ o, u.cell? ⟨w.heap.size, o, none⟩ = #[.int .i64 k, .int .i64 d, .int .i64 a, .int .i64 b, .int .i64 l, .int .i64 f, .int .i64 cond, .int .i64 real, .int .i64 size, .int .i64 imm, av][o]? := fun o => by rw [t.cell hz hn, World.cell?_alloc_new]
  exact ⟨e 0, e 1, e 2, e 3, e 9, e 10, Nat.lt_of_lt_of_le hz t.size⟩

set_option maxHeartbeats 4000000 in
set_option maxRecDepth 100000 in
theorem uses_1 (hE : Enters Tryz.prog K) (hF : ∀ i, F i → i < w.heap.size) (h31 : k ≠ 31) (h32 : k ≠ 32) (hv : fieldsF k = 1) (h0 : J 0 w) (hno : ∀ n u u', J n u → Tn No u u' → J n u')
    (hs : ∀ n y z u, (usesF ⟨k, d, a, b, l, f, cond, real, size, imm, av, args⟩)[n]? = some (y, z) → J n u → Calls Tryz.prog K (#[.int .i64 y, .int .i64 z] ++ cs) u fun e w' => e = .returned (.tuple #[]) ∧ J (n + 1) w' ∧ Tn F u w') :
    Calls Tryz.prog 140 #[.agg #[.int .i64 k, .int .i64 d, .int .i64 a, .int .i64 b, .int .i64 l, .int .i64 f, .int .i64 cond, .int .i64 real, .int .i64 size, .int .i64 imm, av], .func (.func K) #[] cs] w fun e w' => e = .returned (.tuple #[]) ∧ J (usesF ⟨k, d, a, b, l, f, cond, real, size, imm, av, args⟩).length w' ∧ Tn F w w' := by
  have HB := uses_box F k d a b l f cond real size imm av w hF
  have HFi : Hid (∀ u, Calls Tryz.prog 96 #[.int .i64 k] u fun e w' => e = .returned (.int .i64 1) ∧ w' = u) := hid (fun u => by have := fields_raw k u; rw [hv] at this; exact this)
  have HU : Hid (usesF ⟨k, d, a, b, l, f, cond, real, size, imm, av, args⟩ = [(1, d)]) := hid (by unfold usesF bit; simp only [hv]; simp [h31, h32])
  have eK : ∀ (args : Array Value) (w : World), (callFunc K args).run Tryz.prog w = .ok (.enter K args) w := hE
  have HS := hid hs
  have HNo := hid hno
  have J0 := hno 0 w _ h0 ((Tn.refl No w).alloc (.cells #[.int .i64 k, .int .i64 d, .int .i64 a, .int .i64 b, .int .i64 l, .int .i64 f, .int .i64 cond, .int .i64 real, .int .i64 size, .int .i64 imm, av] 79))
  have HT0 : Hid (∀ u, Tn F (w.alloc (.cells #[.int .i64 k, .int .i64 d, .int .i64 a, .int .i64 b, .int .i64 l, .int .i64 f, .int .i64 cond, .int .i64 real, .int .i64 size, .int .i64 imm, av] 79)) u → Tn F w u) := hid (fun u t => ((Tn.refl F w).alloc _).then t)
  have T0 : Tn F (w.alloc (.cells #[.int .i64 k, .int .i64 d, .int .i64 a, .int .i64 b, .int .i64 l, .int .i64 f, .int .i64 cond, .int .i64 real, .int .i64 size, .int .i64 imm, av] 79)) (w.alloc (.cells #[.int .i64 k, .int .i64 d, .int .i64 a, .int .i64 b, .int .i64 l, .int .i64 f, .int .i64 cond, .int .i64 real, .int .i64 size, .int .i64 imm, av] 79)) := Tn.refl _ _
  have n31 : (k == 31) = false := by simpa using h31
  have n32 : (k == 32) = false := by simpa using h32
  clear h0 hno hs hF hE
  obtain ⟨p0, p1, p2, p3, p9, p10, pz⟩ := HB.out _ T0
  go_enter Tryz.func140, Tryz.ntmps140
  go_wp2_with (first
    | (go_at_call 96; refine (HFi.out _).mono ?_; rintro e w1 ⟨rfl, rfl⟩)
    | (go_at_fn K; refine (HS.out 0 _ _ _ (by rw [HU.out]; rfl) J0).mono ?_; rintro e w2 ⟨rfl, J1, t0⟩; have T1 := T0.then t0; obtain ⟨p0, p1, p2, p3, p9, p10, pz⟩ := HB.out _ T1; clear t0))
  go_end0
  exact ⟨rfl, by rw [HU.out]; exact J1, HT0.out _ T1⟩

set_option maxHeartbeats 4000000 in
set_option maxRecDepth 100000 in
theorem uses_3 (hE : Enters Tryz.prog K) (hF : ∀ i, F i → i < w.heap.size) (h31 : k ≠ 31) (h32 : k ≠ 32) (hv : fieldsF k = 3) (h0 : J 0 w) (hno : ∀ n u u', J n u → Tn No u u' → J n u')
    (hs : ∀ n y z u, (usesF ⟨k, d, a, b, l, f, cond, real, size, imm, av, args⟩)[n]? = some (y, z) → J n u → Calls Tryz.prog K (#[.int .i64 y, .int .i64 z] ++ cs) u fun e w' => e = .returned (.tuple #[]) ∧ J (n + 1) w' ∧ Tn F u w') :
    Calls Tryz.prog 140 #[.agg #[.int .i64 k, .int .i64 d, .int .i64 a, .int .i64 b, .int .i64 l, .int .i64 f, .int .i64 cond, .int .i64 real, .int .i64 size, .int .i64 imm, av], .func (.func K) #[] cs] w fun e w' => e = .returned (.tuple #[]) ∧ J (usesF ⟨k, d, a, b, l, f, cond, real, size, imm, av, args⟩).length w' ∧ Tn F w w' := by
  have HB := uses_box F k d a b l f cond real size imm av w hF
  have HFi : Hid (∀ u, Calls Tryz.prog 96 #[.int .i64 k] u fun e w' => e = .returned (.int .i64 3) ∧ w' = u) := hid (fun u => by have := fields_raw k u; rw [hv] at this; exact this)
  have HU : Hid (usesF ⟨k, d, a, b, l, f, cond, real, size, imm, av, args⟩ = [(0, a), (1, d)]) := hid (by unfold usesF bit; simp only [hv]; simp [h31, h32])
  have eK : ∀ (args : Array Value) (w : World), (callFunc K args).run Tryz.prog w = .ok (.enter K args) w := hE
  have HS := hid hs
  have HNo := hid hno
  have J0 := hno 0 w _ h0 ((Tn.refl No w).alloc (.cells #[.int .i64 k, .int .i64 d, .int .i64 a, .int .i64 b, .int .i64 l, .int .i64 f, .int .i64 cond, .int .i64 real, .int .i64 size, .int .i64 imm, av] 79))
  have HT0 : Hid (∀ u, Tn F (w.alloc (.cells #[.int .i64 k, .int .i64 d, .int .i64 a, .int .i64 b, .int .i64 l, .int .i64 f, .int .i64 cond, .int .i64 real, .int .i64 size, .int .i64 imm, av] 79)) u → Tn F w u) := hid (fun u t => ((Tn.refl F w).alloc _).then t)
  have T0 : Tn F (w.alloc (.cells #[.int .i64 k, .int .i64 d, .int .i64 a, .int .i64 b, .int .i64 l, .int .i64 f, .int .i64 cond, .int .i64 real, .int .i64 size, .int .i64 imm, av] 79)) (w.alloc (.cells #[.int .i64 k, .int .i64 d, .int .i64 a, .int .i64 b, .int .i64 l, .int .i64 f, .int .i64 cond, .int .i64 real, .int .i64 size, .int .i64 imm, av] 79)) := Tn.refl _ _
  have n31 : (k == 31) = false := by simpa using h31
  have n32 : (k == 32) = false := by simpa using h32
  clear h0 hno hs hF hE
  obtain ⟨p0, p1, p2, p3, p9, p10, pz⟩ := HB.out _ T0
  go_enter Tryz.func140, Tryz.ntmps140
  go_wp2_with (first
    | (go_at_call 96; refine (HFi.out _).mono ?_; rintro e w1 ⟨rfl, rfl⟩)
    | (go_at_fn K; refine (HS.out 1 _ _ _ (by rw [HU.out]; rfl) J1).mono ?_; rintro e w3 ⟨rfl, J2, t1⟩; have T2 := T1.then t1; obtain ⟨p0, p1, p2, p3, p9, p10, pz⟩ := HB.out _ T2; clear t1)
    | (go_at_fn K; refine (HS.out 0 _ _ _ (by rw [HU.out]; rfl) J0).mono ?_; rintro e w2 ⟨rfl, J1, t0⟩; have T1 := T0.then t0; obtain ⟨p0, p1, p2, p3, p9, p10, pz⟩ := HB.out _ T1; clear t0))
  go_end0
  exact ⟨rfl, by rw [HU.out]; exact J2, HT0.out _ T2⟩

set_option maxHeartbeats 4000000 in
set_option maxRecDepth 100000 in
theorem uses_7 (hE : Enters Tryz.prog K) (hF : ∀ i, F i → i < w.heap.size) (h31 : k ≠ 31) (h32 : k ≠ 32) (hv : fieldsF k = 7) (h0 : J 0 w) (hno : ∀ n u u', J n u → Tn No u u' → J n u')
    (hs : ∀ n y z u, (usesF ⟨k, d, a, b, l, f, cond, real, size, imm, av, args⟩)[n]? = some (y, z) → J n u → Calls Tryz.prog K (#[.int .i64 y, .int .i64 z] ++ cs) u fun e w' => e = .returned (.tuple #[]) ∧ J (n + 1) w' ∧ Tn F u w') :
    Calls Tryz.prog 140 #[.agg #[.int .i64 k, .int .i64 d, .int .i64 a, .int .i64 b, .int .i64 l, .int .i64 f, .int .i64 cond, .int .i64 real, .int .i64 size, .int .i64 imm, av], .func (.func K) #[] cs] w fun e w' => e = .returned (.tuple #[]) ∧ J (usesF ⟨k, d, a, b, l, f, cond, real, size, imm, av, args⟩).length w' ∧ Tn F w w' := by
  have HB := uses_box F k d a b l f cond real size imm av w hF
  have HFi : Hid (∀ u, Calls Tryz.prog 96 #[.int .i64 k] u fun e w' => e = .returned (.int .i64 7) ∧ w' = u) := hid (fun u => by have := fields_raw k u; rw [hv] at this; exact this)
  have HU : Hid (usesF ⟨k, d, a, b, l, f, cond, real, size, imm, av, args⟩ = [(0, a), (0, b), (1, d)]) := hid (by unfold usesF bit; simp only [hv]; simp [h31, h32])
  have eK : ∀ (args : Array Value) (w : World), (callFunc K args).run Tryz.prog w = .ok (.enter K args) w := hE
  have HS := hid hs
  have HNo := hid hno
  have J0 := hno 0 w _ h0 ((Tn.refl No w).alloc (.cells #[.int .i64 k, .int .i64 d, .int .i64 a, .int .i64 b, .int .i64 l, .int .i64 f, .int .i64 cond, .int .i64 real, .int .i64 size, .int .i64 imm, av] 79))
  have HT0 : Hid (∀ u, Tn F (w.alloc (.cells #[.int .i64 k, .int .i64 d, .int .i64 a, .int .i64 b, .int .i64 l, .int .i64 f, .int .i64 cond, .int .i64 real, .int .i64 size, .int .i64 imm, av] 79)) u → Tn F w u) := hid (fun u t => ((Tn.refl F w).alloc _).then t)
  have T0 : Tn F (w.alloc (.cells #[.int .i64 k, .int .i64 d, .int .i64 a, .int .i64 b, .int .i64 l, .int .i64 f, .int .i64 cond, .int .i64 real, .int .i64 size, .int .i64 imm, av] 79)) (w.alloc (.cells #[.int .i64 k, .int .i64 d, .int .i64 a, .int .i64 b, .int .i64 l, .int .i64 f, .int .i64 cond, .int .i64 real, .int .i64 size, .int .i64 imm, av] 79)) := Tn.refl _ _
  have n31 : (k == 31) = false := by simpa using h31
  have n32 : (k == 32) = false := by simpa using h32
  clear h0 hno hs hF hE
  obtain ⟨p0, p1, p2, p3, p9, p10, pz⟩ := HB.out _ T0
  go_enter Tryz.func140, Tryz.ntmps140
  go_wp2_with (first
    | (go_at_call 96; refine (HFi.out _).mono ?_; rintro e w1 ⟨rfl, rfl⟩)
    | (go_at_fn K; refine (HS.out 2 _ _ _ (by rw [HU.out]; rfl) J2).mono ?_; rintro e w4 ⟨rfl, J3, t2⟩; have T3 := T2.then t2; obtain ⟨p0, p1, p2, p3, p9, p10, pz⟩ := HB.out _ T3; clear t2)
    | (go_at_fn K; refine (HS.out 1 _ _ _ (by rw [HU.out]; rfl) J1).mono ?_; rintro e w3 ⟨rfl, J2, t1⟩; have T2 := T1.then t1; obtain ⟨p0, p1, p2, p3, p9, p10, pz⟩ := HB.out _ T2; clear t1)
    | (go_at_fn K; refine (HS.out 0 _ _ _ (by rw [HU.out]; rfl) J0).mono ?_; rintro e w2 ⟨rfl, J1, t0⟩; have T1 := T0.then t0; obtain ⟨p0, p1, p2, p3, p9, p10, pz⟩ := HB.out _ T1; clear t0))
  go_end0
  exact ⟨rfl, by rw [HU.out]; exact J3, HT0.out _ T3⟩

set_option maxHeartbeats 4000000 in
set_option maxRecDepth 100000 in
theorem uses_71 (hE : Enters Tryz.prog K) (hF : ∀ i, F i → i < w.heap.size) (h31 : k ≠ 31) (h32 : k ≠ 32) (hv : fieldsF k = 71) (h0 : J 0 w) (hno : ∀ n u u', J n u → Tn No u u' → J n u')
    (hs : ∀ n y z u, (usesF ⟨k, d, a, b, l, f, cond, real, size, imm, av, args⟩)[n]? = some (y, z) → J n u → Calls Tryz.prog K (#[.int .i64 y, .int .i64 z] ++ cs) u fun e w' => e = .returned (.tuple #[]) ∧ J (n + 1) w' ∧ Tn F u w') :
    Calls Tryz.prog 140 #[.agg #[.int .i64 k, .int .i64 d, .int .i64 a, .int .i64 b, .int .i64 l, .int .i64 f, .int .i64 cond, .int .i64 real, .int .i64 size, .int .i64 imm, av], .func (.func K) #[] cs] w fun e w' => e = .returned (.tuple #[]) ∧ J (usesF ⟨k, d, a, b, l, f, cond, real, size, imm, av, args⟩).length w' ∧ Tn F w w' := by
  have HB := uses_box F k d a b l f cond real size imm av w hF
  have HFi : Hid (∀ u, Calls Tryz.prog 96 #[.int .i64 k] u fun e w' => e = .returned (.int .i64 71) ∧ w' = u) := hid (fun u => by have := fields_raw k u; rw [hv] at this; exact this)
  have HU : Hid (usesF ⟨k, d, a, b, l, f, cond, real, size, imm, av, args⟩ = [(0, a), (0, b), (1, d)]) := hid (by unfold usesF bit; simp only [hv]; simp [h31, h32])
  have eK : ∀ (args : Array Value) (w : World), (callFunc K args).run Tryz.prog w = .ok (.enter K args) w := hE
  have HS := hid hs
  have HNo := hid hno
  have J0 := hno 0 w _ h0 ((Tn.refl No w).alloc (.cells #[.int .i64 k, .int .i64 d, .int .i64 a, .int .i64 b, .int .i64 l, .int .i64 f, .int .i64 cond, .int .i64 real, .int .i64 size, .int .i64 imm, av] 79))
  have HT0 : Hid (∀ u, Tn F (w.alloc (.cells #[.int .i64 k, .int .i64 d, .int .i64 a, .int .i64 b, .int .i64 l, .int .i64 f, .int .i64 cond, .int .i64 real, .int .i64 size, .int .i64 imm, av] 79)) u → Tn F w u) := hid (fun u t => ((Tn.refl F w).alloc _).then t)
  have T0 : Tn F (w.alloc (.cells #[.int .i64 k, .int .i64 d, .int .i64 a, .int .i64 b, .int .i64 l, .int .i64 f, .int .i64 cond, .int .i64 real, .int .i64 size, .int .i64 imm, av] 79)) (w.alloc (.cells #[.int .i64 k, .int .i64 d, .int .i64 a, .int .i64 b, .int .i64 l, .int .i64 f, .int .i64 cond, .int .i64 real, .int .i64 size, .int .i64 imm, av] 79)) := Tn.refl _ _
  have n31 : (k == 31) = false := by simpa using h31
  have n32 : (k == 32) = false := by simpa using h32
  clear h0 hno hs hF hE
  obtain ⟨p0, p1, p2, p3, p9, p10, pz⟩ := HB.out _ T0
  go_enter Tryz.func140, Tryz.ntmps140
  go_wp2_with (first
    | (go_at_call 96; refine (HFi.out _).mono ?_; rintro e w1 ⟨rfl, rfl⟩)
    | (go_at_fn K; refine (HS.out 2 _ _ _ (by rw [HU.out]; rfl) J2).mono ?_; rintro e w4 ⟨rfl, J3, t2⟩; have T3 := T2.then t2; obtain ⟨p0, p1, p2, p3, p9, p10, pz⟩ := HB.out _ T3; clear t2)
    | (go_at_fn K; refine (HS.out 1 _ _ _ (by rw [HU.out]; rfl) J1).mono ?_; rintro e w3 ⟨rfl, J2, t1⟩; have T2 := T1.then t1; obtain ⟨p0, p1, p2, p3, p9, p10, pz⟩ := HB.out _ T2; clear t1)
    | (go_at_fn K; refine (HS.out 0 _ _ _ (by rw [HU.out]; rfl) J0).mono ?_; rintro e w2 ⟨rfl, J1, t0⟩; have T1 := T0.then t0; obtain ⟨p0, p1, p2, p3, p9, p10, pz⟩ := HB.out _ T1; clear t0))
  go_end0
  exact ⟨rfl, by rw [HU.out]; exact J3, HT0.out _ T3⟩

set_option maxHeartbeats 4000000 in
set_option maxRecDepth 100000 in
theorem uses_135 (hE : Enters Tryz.prog K) (hF : ∀ i, F i → i < w.heap.size) (h31 : k ≠ 31) (h32 : k ≠ 32) (hv : fieldsF k = 135) (h0 : J 0 w) (hno : ∀ n u u', J n u → Tn No u u' → J n u')
    (hs : ∀ n y z u, (usesF ⟨k, d, a, b, l, f, cond, real, size, imm, av, args⟩)[n]? = some (y, z) → J n u → Calls Tryz.prog K (#[.int .i64 y, .int .i64 z] ++ cs) u fun e w' => e = .returned (.tuple #[]) ∧ J (n + 1) w' ∧ Tn F u w') :
    Calls Tryz.prog 140 #[.agg #[.int .i64 k, .int .i64 d, .int .i64 a, .int .i64 b, .int .i64 l, .int .i64 f, .int .i64 cond, .int .i64 real, .int .i64 size, .int .i64 imm, av], .func (.func K) #[] cs] w fun e w' => e = .returned (.tuple #[]) ∧ J (usesF ⟨k, d, a, b, l, f, cond, real, size, imm, av, args⟩).length w' ∧ Tn F w w' := by
  have HB := uses_box F k d a b l f cond real size imm av w hF
  have HFi : Hid (∀ u, Calls Tryz.prog 96 #[.int .i64 k] u fun e w' => e = .returned (.int .i64 135) ∧ w' = u) := hid (fun u => by have := fields_raw k u; rw [hv] at this; exact this)
  have HU : Hid (usesF ⟨k, d, a, b, l, f, cond, real, size, imm, av, args⟩ = [(0, a), (0, b), (1, d)]) := hid (by unfold usesF bit; simp only [hv]; simp [h31, h32])
  have eK : ∀ (args : Array Value) (w : World), (callFunc K args).run Tryz.prog w = .ok (.enter K args) w := hE
  have HS := hid hs
  have HNo := hid hno
  have J0 := hno 0 w _ h0 ((Tn.refl No w).alloc (.cells #[.int .i64 k, .int .i64 d, .int .i64 a, .int .i64 b, .int .i64 l, .int .i64 f, .int .i64 cond, .int .i64 real, .int .i64 size, .int .i64 imm, av] 79))
  have HT0 : Hid (∀ u, Tn F (w.alloc (.cells #[.int .i64 k, .int .i64 d, .int .i64 a, .int .i64 b, .int .i64 l, .int .i64 f, .int .i64 cond, .int .i64 real, .int .i64 size, .int .i64 imm, av] 79)) u → Tn F w u) := hid (fun u t => ((Tn.refl F w).alloc _).then t)
  have T0 : Tn F (w.alloc (.cells #[.int .i64 k, .int .i64 d, .int .i64 a, .int .i64 b, .int .i64 l, .int .i64 f, .int .i64 cond, .int .i64 real, .int .i64 size, .int .i64 imm, av] 79)) (w.alloc (.cells #[.int .i64 k, .int .i64 d, .int .i64 a, .int .i64 b, .int .i64 l, .int .i64 f, .int .i64 cond, .int .i64 real, .int .i64 size, .int .i64 imm, av] 79)) := Tn.refl _ _
  have n31 : (k == 31) = false := by simpa using h31
  have n32 : (k == 32) = false := by simpa using h32
  clear h0 hno hs hF hE
  obtain ⟨p0, p1, p2, p3, p9, p10, pz⟩ := HB.out _ T0
  go_enter Tryz.func140, Tryz.ntmps140
  go_wp2_with (first
    | (go_at_call 96; refine (HFi.out _).mono ?_; rintro e w1 ⟨rfl, rfl⟩)
    | (go_at_fn K; refine (HS.out 2 _ _ _ (by rw [HU.out]; rfl) J2).mono ?_; rintro e w4 ⟨rfl, J3, t2⟩; have T3 := T2.then t2; obtain ⟨p0, p1, p2, p3, p9, p10, pz⟩ := HB.out _ T3; clear t2)
    | (go_at_fn K; refine (HS.out 1 _ _ _ (by rw [HU.out]; rfl) J1).mono ?_; rintro e w3 ⟨rfl, J2, t1⟩; have T2 := T1.then t1; obtain ⟨p0, p1, p2, p3, p9, p10, pz⟩ := HB.out _ T2; clear t1)
    | (go_at_fn K; refine (HS.out 0 _ _ _ (by rw [HU.out]; rfl) J0).mono ?_; rintro e w2 ⟨rfl, J1, t0⟩; have T1 := T0.then t0; obtain ⟨p0, p1, p2, p3, p9, p10, pz⟩ := HB.out _ T1; clear t0))
  go_end0
  exact ⟨rfl, by rw [HU.out]; exact J3, HT0.out _ T3⟩

set_option maxHeartbeats 4000000 in
set_option maxRecDepth 100000 in
theorem uses_259 (hE : Enters Tryz.prog K) (hF : ∀ i, F i → i < w.heap.size) (h31 : k ≠ 31) (h32 : k ≠ 32) (hv : fieldsF k = 259) (h0 : J 0 w) (hno : ∀ n u u', J n u → Tn No u u' → J n u')
    (hs : ∀ n y z u, (usesF ⟨k, d, a, b, l, f, cond, real, size, imm, av, args⟩)[n]? = some (y, z) → J n u → Calls Tryz.prog K (#[.int .i64 y, .int .i64 z] ++ cs) u fun e w' => e = .returned (.tuple #[]) ∧ J (n + 1) w' ∧ Tn F u w') :
    Calls Tryz.prog 140 #[.agg #[.int .i64 k, .int .i64 d, .int .i64 a, .int .i64 b, .int .i64 l, .int .i64 f, .int .i64 cond, .int .i64 real, .int .i64 size, .int .i64 imm, av], .func (.func K) #[] cs] w fun e w' => e = .returned (.tuple #[]) ∧ J (usesF ⟨k, d, a, b, l, f, cond, real, size, imm, av, args⟩).length w' ∧ Tn F w w' := by
  have HB := uses_box F k d a b l f cond real size imm av w hF
  have HFi : Hid (∀ u, Calls Tryz.prog 96 #[.int .i64 k] u fun e w' => e = .returned (.int .i64 259) ∧ w' = u) := hid (fun u => by have := fields_raw k u; rw [hv] at this; exact this)
  have HU : Hid (usesF ⟨k, d, a, b, l, f, cond, real, size, imm, av, args⟩ = [(0, a), (1, d)]) := hid (by unfold usesF bit; simp only [hv]; simp [h31, h32])
  have eK : ∀ (args : Array Value) (w : World), (callFunc K args).run Tryz.prog w = .ok (.enter K args) w := hE
  have HS := hid hs
  have HNo := hid hno
  have J0 := hno 0 w _ h0 ((Tn.refl No w).alloc (.cells #[.int .i64 k, .int .i64 d, .int .i64 a, .int .i64 b, .int .i64 l, .int .i64 f, .int .i64 cond, .int .i64 real, .int .i64 size, .int .i64 imm, av] 79))
  have HT0 : Hid (∀ u, Tn F (w.alloc (.cells #[.int .i64 k, .int .i64 d, .int .i64 a, .int .i64 b, .int .i64 l, .int .i64 f, .int .i64 cond, .int .i64 real, .int .i64 size, .int .i64 imm, av] 79)) u → Tn F w u) := hid (fun u t => ((Tn.refl F w).alloc _).then t)
  have T0 : Tn F (w.alloc (.cells #[.int .i64 k, .int .i64 d, .int .i64 a, .int .i64 b, .int .i64 l, .int .i64 f, .int .i64 cond, .int .i64 real, .int .i64 size, .int .i64 imm, av] 79)) (w.alloc (.cells #[.int .i64 k, .int .i64 d, .int .i64 a, .int .i64 b, .int .i64 l, .int .i64 f, .int .i64 cond, .int .i64 real, .int .i64 size, .int .i64 imm, av] 79)) := Tn.refl _ _
  have n31 : (k == 31) = false := by simpa using h31
  have n32 : (k == 32) = false := by simpa using h32
  clear h0 hno hs hF hE
  obtain ⟨p0, p1, p2, p3, p9, p10, pz⟩ := HB.out _ T0
  go_enter Tryz.func140, Tryz.ntmps140
  go_wp2_with (first
    | (go_at_call 96; refine (HFi.out _).mono ?_; rintro e w1 ⟨rfl, rfl⟩)
    | (go_at_fn K; refine (HS.out 1 _ _ _ (by rw [HU.out]; rfl) J1).mono ?_; rintro e w3 ⟨rfl, J2, t1⟩; have T2 := T1.then t1; obtain ⟨p0, p1, p2, p3, p9, p10, pz⟩ := HB.out _ T2; clear t1)
    | (go_at_fn K; refine (HS.out 0 _ _ _ (by rw [HU.out]; rfl) J0).mono ?_; rintro e w2 ⟨rfl, J1, t0⟩; have T1 := T0.then t0; obtain ⟨p0, p1, p2, p3, p9, p10, pz⟩ := HB.out _ T1; clear t0))
  go_end0
  exact ⟨rfl, by rw [HU.out]; exact J2, HT0.out _ T2⟩

set_option maxHeartbeats 4000000 in
set_option maxRecDepth 100000 in
theorem uses_262 (hE : Enters Tryz.prog K) (hF : ∀ i, F i → i < w.heap.size) (h31 : k ≠ 31) (h32 : k ≠ 32) (hv : fieldsF k = 262) (h0 : J 0 w) (hno : ∀ n u u', J n u → Tn No u u' → J n u')
    (hs : ∀ n y z u, (usesF ⟨k, d, a, b, l, f, cond, real, size, imm, av, args⟩)[n]? = some (y, z) → J n u → Calls Tryz.prog K (#[.int .i64 y, .int .i64 z] ++ cs) u fun e w' => e = .returned (.tuple #[]) ∧ J (n + 1) w' ∧ Tn F u w') :
    Calls Tryz.prog 140 #[.agg #[.int .i64 k, .int .i64 d, .int .i64 a, .int .i64 b, .int .i64 l, .int .i64 f, .int .i64 cond, .int .i64 real, .int .i64 size, .int .i64 imm, av], .func (.func K) #[] cs] w fun e w' => e = .returned (.tuple #[]) ∧ J (usesF ⟨k, d, a, b, l, f, cond, real, size, imm, av, args⟩).length w' ∧ Tn F w w' := by
  have HB := uses_box F k d a b l f cond real size imm av w hF
  have HFi : Hid (∀ u, Calls Tryz.prog 96 #[.int .i64 k] u fun e w' => e = .returned (.int .i64 262) ∧ w' = u) := hid (fun u => by have := fields_raw k u; rw [hv] at this; exact this)
  have HU : Hid (usesF ⟨k, d, a, b, l, f, cond, real, size, imm, av, args⟩ = [(0, a), (0, b)]) := hid (by unfold usesF bit; simp only [hv]; simp [h31, h32])
  have eK : ∀ (args : Array Value) (w : World), (callFunc K args).run Tryz.prog w = .ok (.enter K args) w := hE
  have HS := hid hs
  have HNo := hid hno
  have J0 := hno 0 w _ h0 ((Tn.refl No w).alloc (.cells #[.int .i64 k, .int .i64 d, .int .i64 a, .int .i64 b, .int .i64 l, .int .i64 f, .int .i64 cond, .int .i64 real, .int .i64 size, .int .i64 imm, av] 79))
  have HT0 : Hid (∀ u, Tn F (w.alloc (.cells #[.int .i64 k, .int .i64 d, .int .i64 a, .int .i64 b, .int .i64 l, .int .i64 f, .int .i64 cond, .int .i64 real, .int .i64 size, .int .i64 imm, av] 79)) u → Tn F w u) := hid (fun u t => ((Tn.refl F w).alloc _).then t)
  have T0 : Tn F (w.alloc (.cells #[.int .i64 k, .int .i64 d, .int .i64 a, .int .i64 b, .int .i64 l, .int .i64 f, .int .i64 cond, .int .i64 real, .int .i64 size, .int .i64 imm, av] 79)) (w.alloc (.cells #[.int .i64 k, .int .i64 d, .int .i64 a, .int .i64 b, .int .i64 l, .int .i64 f, .int .i64 cond, .int .i64 real, .int .i64 size, .int .i64 imm, av] 79)) := Tn.refl _ _
  have n31 : (k == 31) = false := by simpa using h31
  have n32 : (k == 32) = false := by simpa using h32
  clear h0 hno hs hF hE
  obtain ⟨p0, p1, p2, p3, p9, p10, pz⟩ := HB.out _ T0
  go_enter Tryz.func140, Tryz.ntmps140
  go_wp2_with (first
    | (go_at_call 96; refine (HFi.out _).mono ?_; rintro e w1 ⟨rfl, rfl⟩)
    | (go_at_fn K; refine (HS.out 1 _ _ _ (by rw [HU.out]; rfl) J1).mono ?_; rintro e w3 ⟨rfl, J2, t1⟩; have T2 := T1.then t1; obtain ⟨p0, p1, p2, p3, p9, p10, pz⟩ := HB.out _ T2; clear t1)
    | (go_at_fn K; refine (HS.out 0 _ _ _ (by rw [HU.out]; rfl) J0).mono ?_; rintro e w2 ⟨rfl, J1, t0⟩; have T1 := T0.then t0; obtain ⟨p0, p1, p2, p3, p9, p10, pz⟩ := HB.out _ T1; clear t0))
  go_end0
  exact ⟨rfl, by rw [HU.out]; exact J2, HT0.out _ T2⟩

set_option maxHeartbeats 4000000 in
set_option maxRecDepth 100000 in
theorem uses_8 (hE : Enters Tryz.prog K) (hF : ∀ i, F i → i < w.heap.size) (h31 : k ≠ 31) (h32 : k ≠ 32) (hv : fieldsF k = 8) (h0 : J 0 w) (hno : ∀ n u u', J n u → Tn No u u' → J n u')
    (hs : ∀ n y z u, (usesF ⟨k, d, a, b, l, f, cond, real, size, imm, av, args⟩)[n]? = some (y, z) → J n u → Calls Tryz.prog K (#[.int .i64 y, .int .i64 z] ++ cs) u fun e w' => e = .returned (.tuple #[]) ∧ J (n + 1) w' ∧ Tn F u w') :
    Calls Tryz.prog 140 #[.agg #[.int .i64 k, .int .i64 d, .int .i64 a, .int .i64 b, .int .i64 l, .int .i64 f, .int .i64 cond, .int .i64 real, .int .i64 size, .int .i64 imm, av], .func (.func K) #[] cs] w fun e w' => e = .returned (.tuple #[]) ∧ J (usesF ⟨k, d, a, b, l, f, cond, real, size, imm, av, args⟩).length w' ∧ Tn F w w' := by
  have HB := uses_box F k d a b l f cond real size imm av w hF
  have HFi : Hid (∀ u, Calls Tryz.prog 96 #[.int .i64 k] u fun e w' => e = .returned (.int .i64 8) ∧ w' = u) := hid (fun u => by have := fields_raw k u; rw [hv] at this; exact this)
  have HU : Hid (usesF ⟨k, d, a, b, l, f, cond, real, size, imm, av, args⟩ = []) := hid (by unfold usesF bit; simp only [hv]; simp [h31, h32])
  have eK : ∀ (args : Array Value) (w : World), (callFunc K args).run Tryz.prog w = .ok (.enter K args) w := hE
  have HS := hid hs
  have HNo := hid hno
  have J0 := hno 0 w _ h0 ((Tn.refl No w).alloc (.cells #[.int .i64 k, .int .i64 d, .int .i64 a, .int .i64 b, .int .i64 l, .int .i64 f, .int .i64 cond, .int .i64 real, .int .i64 size, .int .i64 imm, av] 79))
  have HT0 : Hid (∀ u, Tn F (w.alloc (.cells #[.int .i64 k, .int .i64 d, .int .i64 a, .int .i64 b, .int .i64 l, .int .i64 f, .int .i64 cond, .int .i64 real, .int .i64 size, .int .i64 imm, av] 79)) u → Tn F w u) := hid (fun u t => ((Tn.refl F w).alloc _).then t)
  have T0 : Tn F (w.alloc (.cells #[.int .i64 k, .int .i64 d, .int .i64 a, .int .i64 b, .int .i64 l, .int .i64 f, .int .i64 cond, .int .i64 real, .int .i64 size, .int .i64 imm, av] 79)) (w.alloc (.cells #[.int .i64 k, .int .i64 d, .int .i64 a, .int .i64 b, .int .i64 l, .int .i64 f, .int .i64 cond, .int .i64 real, .int .i64 size, .int .i64 imm, av] 79)) := Tn.refl _ _
  have n31 : (k == 31) = false := by simpa using h31
  have n32 : (k == 32) = false := by simpa using h32
  clear h0 hno hs hF hE
  obtain ⟨p0, p1, p2, p3, p9, p10, pz⟩ := HB.out _ T0
  go_enter Tryz.func140, Tryz.ntmps140
  go_wp2_with (first
    | (go_at_call 96; refine (HFi.out _).mono ?_; rintro e w1 ⟨rfl, rfl⟩)
    | fail)
  go_end0
  exact ⟨rfl, by rw [HU.out]; exact J0, HT0.out _ T0⟩

set_option maxHeartbeats 4000000 in
set_option maxRecDepth 100000 in
theorem uses_78 (hE : Enters Tryz.prog K) (hF : ∀ i, F i → i < w.heap.size) (h31 : k ≠ 31) (h32 : k ≠ 32) (hv : fieldsF k = 78) (h0 : J 0 w) (hno : ∀ n u u', J n u → Tn No u u' → J n u')
    (hs : ∀ n y z u, (usesF ⟨k, d, a, b, l, f, cond, real, size, imm, av, args⟩)[n]? = some (y, z) → J n u → Calls Tryz.prog K (#[.int .i64 y, .int .i64 z] ++ cs) u fun e w' => e = .returned (.tuple #[]) ∧ J (n + 1) w' ∧ Tn F u w') :
    Calls Tryz.prog 140 #[.agg #[.int .i64 k, .int .i64 d, .int .i64 a, .int .i64 b, .int .i64 l, .int .i64 f, .int .i64 cond, .int .i64 real, .int .i64 size, .int .i64 imm, av], .func (.func K) #[] cs] w fun e w' => e = .returned (.tuple #[]) ∧ J (usesF ⟨k, d, a, b, l, f, cond, real, size, imm, av, args⟩).length w' ∧ Tn F w w' := by
  have HB := uses_box F k d a b l f cond real size imm av w hF
  have HFi : Hid (∀ u, Calls Tryz.prog 96 #[.int .i64 k] u fun e w' => e = .returned (.int .i64 78) ∧ w' = u) := hid (fun u => by have := fields_raw k u; rw [hv] at this; exact this)
  have HU : Hid (usesF ⟨k, d, a, b, l, f, cond, real, size, imm, av, args⟩ = [(0, a), (0, b)]) := hid (by unfold usesF bit; simp only [hv]; simp [h31, h32])
  have eK : ∀ (args : Array Value) (w : World), (callFunc K args).run Tryz.prog w = .ok (.enter K args) w := hE
  have HS := hid hs
  have HNo := hid hno
  have J0 := hno 0 w _ h0 ((Tn.refl No w).alloc (.cells #[.int .i64 k, .int .i64 d, .int .i64 a, .int .i64 b, .int .i64 l, .int .i64 f, .int .i64 cond, .int .i64 real, .int .i64 size, .int .i64 imm, av] 79))
  have HT0 : Hid (∀ u, Tn F (w.alloc (.cells #[.int .i64 k, .int .i64 d, .int .i64 a, .int .i64 b, .int .i64 l, .int .i64 f, .int .i64 cond, .int .i64 real, .int .i64 size, .int .i64 imm, av] 79)) u → Tn F w u) := hid (fun u t => ((Tn.refl F w).alloc _).then t)
  have T0 : Tn F (w.alloc (.cells #[.int .i64 k, .int .i64 d, .int .i64 a, .int .i64 b, .int .i64 l, .int .i64 f, .int .i64 cond, .int .i64 real, .int .i64 size, .int .i64 imm, av] 79)) (w.alloc (.cells #[.int .i64 k, .int .i64 d, .int .i64 a, .int .i64 b, .int .i64 l, .int .i64 f, .int .i64 cond, .int .i64 real, .int .i64 size, .int .i64 imm, av] 79)) := Tn.refl _ _
  have n31 : (k == 31) = false := by simpa using h31
  have n32 : (k == 32) = false := by simpa using h32
  clear h0 hno hs hF hE
  obtain ⟨p0, p1, p2, p3, p9, p10, pz⟩ := HB.out _ T0
  go_enter Tryz.func140, Tryz.ntmps140
  go_wp2_with (first
    | (go_at_call 96; refine (HFi.out _).mono ?_; rintro e w1 ⟨rfl, rfl⟩)
    | (go_at_fn K; refine (HS.out 1 _ _ _ (by rw [HU.out]; rfl) J1).mono ?_; rintro e w3 ⟨rfl, J2, t1⟩; have T2 := T1.then t1; obtain ⟨p0, p1, p2, p3, p9, p10, pz⟩ := HB.out _ T2; clear t1)
    | (go_at_fn K; refine (HS.out 0 _ _ _ (by rw [HU.out]; rfl) J0).mono ?_; rintro e w2 ⟨rfl, J1, t0⟩; have T1 := T0.then t0; obtain ⟨p0, p1, p2, p3, p9, p10, pz⟩ := HB.out _ T1; clear t0))
  go_end0
  exact ⟨rfl, by rw [HU.out]; exact J2, HT0.out _ T2⟩

set_option maxHeartbeats 4000000 in
set_option maxRecDepth 100000 in
theorem uses_2 (hE : Enters Tryz.prog K) (hF : ∀ i, F i → i < w.heap.size) (h31 : k ≠ 31) (h32 : k ≠ 32) (hv : fieldsF k = 2) (h0 : J 0 w) (hno : ∀ n u u', J n u → Tn No u u' → J n u')
    (hs : ∀ n y z u, (usesF ⟨k, d, a, b, l, f, cond, real, size, imm, av, args⟩)[n]? = some (y, z) → J n u → Calls Tryz.prog K (#[.int .i64 y, .int .i64 z] ++ cs) u fun e w' => e = .returned (.tuple #[]) ∧ J (n + 1) w' ∧ Tn F u w') :
    Calls Tryz.prog 140 #[.agg #[.int .i64 k, .int .i64 d, .int .i64 a, .int .i64 b, .int .i64 l, .int .i64 f, .int .i64 cond, .int .i64 real, .int .i64 size, .int .i64 imm, av], .func (.func K) #[] cs] w fun e w' => e = .returned (.tuple #[]) ∧ J (usesF ⟨k, d, a, b, l, f, cond, real, size, imm, av, args⟩).length w' ∧ Tn F w w' := by
  have HB := uses_box F k d a b l f cond real size imm av w hF
  have HFi : Hid (∀ u, Calls Tryz.prog 96 #[.int .i64 k] u fun e w' => e = .returned (.int .i64 2) ∧ w' = u) := hid (fun u => by have := fields_raw k u; rw [hv] at this; exact this)
  have HU : Hid (usesF ⟨k, d, a, b, l, f, cond, real, size, imm, av, args⟩ = [(0, a)]) := hid (by unfold usesF bit; simp only [hv]; simp [h31, h32])
  have eK : ∀ (args : Array Value) (w : World), (callFunc K args).run Tryz.prog w = .ok (.enter K args) w := hE
  have HS := hid hs
  have HNo := hid hno
  have J0 := hno 0 w _ h0 ((Tn.refl No w).alloc (.cells #[.int .i64 k, .int .i64 d, .int .i64 a, .int .i64 b, .int .i64 l, .int .i64 f, .int .i64 cond, .int .i64 real, .int .i64 size, .int .i64 imm, av] 79))
  have HT0 : Hid (∀ u, Tn F (w.alloc (.cells #[.int .i64 k, .int .i64 d, .int .i64 a, .int .i64 b, .int .i64 l, .int .i64 f, .int .i64 cond, .int .i64 real, .int .i64 size, .int .i64 imm, av] 79)) u → Tn F w u) := hid (fun u t => ((Tn.refl F w).alloc _).then t)
  have T0 : Tn F (w.alloc (.cells #[.int .i64 k, .int .i64 d, .int .i64 a, .int .i64 b, .int .i64 l, .int .i64 f, .int .i64 cond, .int .i64 real, .int .i64 size, .int .i64 imm, av] 79)) (w.alloc (.cells #[.int .i64 k, .int .i64 d, .int .i64 a, .int .i64 b, .int .i64 l, .int .i64 f, .int .i64 cond, .int .i64 real, .int .i64 size, .int .i64 imm, av] 79)) := Tn.refl _ _
  have n31 : (k == 31) = false := by simpa using h31
  have n32 : (k == 32) = false := by simpa using h32
  clear h0 hno hs hF hE
  obtain ⟨p0, p1, p2, p3, p9, p10, pz⟩ := HB.out _ T0
  go_enter Tryz.func140, Tryz.ntmps140
  go_wp2_with (first
    | (go_at_call 96; refine (HFi.out _).mono ?_; rintro e w1 ⟨rfl, rfl⟩)
    | (go_at_fn K; refine (HS.out 0 _ _ _ (by rw [HU.out]; rfl) J0).mono ?_; rintro e w2 ⟨rfl, J1, t0⟩; have T1 := T0.then t0; obtain ⟨p0, p1, p2, p3, p9, p10, pz⟩ := HB.out _ T1; clear t0))
  go_end0
  exact ⟨rfl, by rw [HU.out]; exact J1, HT0.out _ T1⟩

set_option maxHeartbeats 4000000 in
set_option maxRecDepth 100000 in
theorem uses_17 (hE : Enters Tryz.prog K) (hF : ∀ i, F i → i < w.heap.size) (h31 : k ≠ 31) (h32 : k ≠ 32) (hv : fieldsF k = 17) (h0 : J 0 w) (hno : ∀ n u u', J n u → Tn No u u' → J n u')
    (hs : ∀ n y z u, (usesF ⟨k, d, a, b, l, f, cond, real, size, imm, av, args⟩)[n]? = some (y, z) → J n u → Calls Tryz.prog K (#[.int .i64 y, .int .i64 z] ++ cs) u fun e w' => e = .returned (.tuple #[]) ∧ J (n + 1) w' ∧ Tn F u w') :
    Calls Tryz.prog 140 #[.agg #[.int .i64 k, .int .i64 d, .int .i64 a, .int .i64 b, .int .i64 l, .int .i64 f, .int .i64 cond, .int .i64 real, .int .i64 size, .int .i64 imm, av], .func (.func K) #[] cs] w fun e w' => e = .returned (.tuple #[]) ∧ J (usesF ⟨k, d, a, b, l, f, cond, real, size, imm, av, args⟩).length w' ∧ Tn F w w' := by
  have HB := uses_box F k d a b l f cond real size imm av w hF
  have HFi : Hid (∀ u, Calls Tryz.prog 96 #[.int .i64 k] u fun e w' => e = .returned (.int .i64 17) ∧ w' = u) := hid (fun u => by have := fields_raw k u; rw [hv] at this; exact this)
  have HU : Hid (usesF ⟨k, d, a, b, l, f, cond, real, size, imm, av, args⟩ = [(1, d)]) := hid (by unfold usesF bit; simp only [hv]; simp [h31, h32])
  have eK : ∀ (args : Array Value) (w : World), (callFunc K args).run Tryz.prog w = .ok (.enter K args) w := hE
  have HS := hid hs
  have HNo := hid hno
  have J0 := hno 0 w _ h0 ((Tn.refl No w).alloc (.cells #[.int .i64 k, .int .i64 d, .int .i64 a, .int .i64 b, .int .i64 l, .int .i64 f, .int .i64 cond, .int .i64 real, .int .i64 size, .int .i64 imm, av] 79))
  have HT0 : Hid (∀ u, Tn F (w.alloc (.cells #[.int .i64 k, .int .i64 d, .int .i64 a, .int .i64 b, .int .i64 l, .int .i64 f, .int .i64 cond, .int .i64 real, .int .i64 size, .int .i64 imm, av] 79)) u → Tn F w u) := hid (fun u t => ((Tn.refl F w).alloc _).then t)
  have T0 : Tn F (w.alloc (.cells #[.int .i64 k, .int .i64 d, .int .i64 a, .int .i64 b, .int .i64 l, .int .i64 f, .int .i64 cond, .int .i64 real, .int .i64 size, .int .i64 imm, av] 79)) (w.alloc (.cells #[.int .i64 k, .int .i64 d, .int .i64 a, .int .i64 b, .int .i64 l, .int .i64 f, .int .i64 cond, .int .i64 real, .int .i64 size, .int .i64 imm, av] 79)) := Tn.refl _ _
  have n31 : (k == 31) = false := by simpa using h31
  have n32 : (k == 32) = false := by simpa using h32
  clear h0 hno hs hF hE
  obtain ⟨p0, p1, p2, p3, p9, p10, pz⟩ := HB.out _ T0
  go_enter Tryz.func140, Tryz.ntmps140
  go_wp2_with (first
    | (go_at_call 96; refine (HFi.out _).mono ?_; rintro e w1 ⟨rfl, rfl⟩)
    | (go_at_fn K; refine (HS.out 0 _ _ _ (by rw [HU.out]; rfl) J0).mono ?_; rintro e w2 ⟨rfl, J1, t0⟩; have T1 := T0.then t0; obtain ⟨p0, p1, p2, p3, p9, p10, pz⟩ := HB.out _ T1; clear t0))
  go_end0
  exact ⟨rfl, by rw [HU.out]; exact J1, HT0.out _ T1⟩

set_option maxHeartbeats 4000000 in
set_option maxRecDepth 100000 in
theorem uses_0 (hE : Enters Tryz.prog K) (hF : ∀ i, F i → i < w.heap.size) (h31 : k ≠ 31) (h32 : k ≠ 32) (hv : fieldsF k = 0) (h0 : J 0 w) (hno : ∀ n u u', J n u → Tn No u u' → J n u')
    (hs : ∀ n y z u, (usesF ⟨k, d, a, b, l, f, cond, real, size, imm, av, args⟩)[n]? = some (y, z) → J n u → Calls Tryz.prog K (#[.int .i64 y, .int .i64 z] ++ cs) u fun e w' => e = .returned (.tuple #[]) ∧ J (n + 1) w' ∧ Tn F u w') :
    Calls Tryz.prog 140 #[.agg #[.int .i64 k, .int .i64 d, .int .i64 a, .int .i64 b, .int .i64 l, .int .i64 f, .int .i64 cond, .int .i64 real, .int .i64 size, .int .i64 imm, av], .func (.func K) #[] cs] w fun e w' => e = .returned (.tuple #[]) ∧ J (usesF ⟨k, d, a, b, l, f, cond, real, size, imm, av, args⟩).length w' ∧ Tn F w w' := by
  have HB := uses_box F k d a b l f cond real size imm av w hF
  have HFi : Hid (∀ u, Calls Tryz.prog 96 #[.int .i64 k] u fun e w' => e = .returned (.int .i64 0) ∧ w' = u) := hid (fun u => by have := fields_raw k u; rw [hv] at this; exact this)
  have HU : Hid (usesF ⟨k, d, a, b, l, f, cond, real, size, imm, av, args⟩ = []) := hid (by unfold usesF bit; simp only [hv]; simp [h31, h32])
  have eK : ∀ (args : Array Value) (w : World), (callFunc K args).run Tryz.prog w = .ok (.enter K args) w := hE
  have HS := hid hs
  have HNo := hid hno
  have J0 := hno 0 w _ h0 ((Tn.refl No w).alloc (.cells #[.int .i64 k, .int .i64 d, .int .i64 a, .int .i64 b, .int .i64 l, .int .i64 f, .int .i64 cond, .int .i64 real, .int .i64 size, .int .i64 imm, av] 79))
  have HT0 : Hid (∀ u, Tn F (w.alloc (.cells #[.int .i64 k, .int .i64 d, .int .i64 a, .int .i64 b, .int .i64 l, .int .i64 f, .int .i64 cond, .int .i64 real, .int .i64 size, .int .i64 imm, av] 79)) u → Tn F w u) := hid (fun u t => ((Tn.refl F w).alloc _).then t)
  have T0 : Tn F (w.alloc (.cells #[.int .i64 k, .int .i64 d, .int .i64 a, .int .i64 b, .int .i64 l, .int .i64 f, .int .i64 cond, .int .i64 real, .int .i64 size, .int .i64 imm, av] 79)) (w.alloc (.cells #[.int .i64 k, .int .i64 d, .int .i64 a, .int .i64 b, .int .i64 l, .int .i64 f, .int .i64 cond, .int .i64 real, .int .i64 size, .int .i64 imm, av] 79)) := Tn.refl _ _
  have n31 : (k == 31) = false := by simpa using h31
  have n32 : (k == 32) = false := by simpa using h32
  clear h0 hno hs hF hE
  obtain ⟨p0, p1, p2, p3, p9, p10, pz⟩ := HB.out _ T0
  go_enter Tryz.func140, Tryz.ntmps140
  go_wp2_with (first
    | (go_at_call 96; refine (HFi.out _).mono ?_; rintro e w1 ⟨rfl, rfl⟩)
    | fail)
  go_end0
  exact ⟨rfl, by rw [HU.out]; exact J0, HT0.out _ T0⟩

set_option maxHeartbeats 4000000 in
set_option maxRecDepth 100000 in
theorem uses_get (hE : Enters Tryz.prog K) (hF : ∀ i, F i → i < w.heap.size) (hk : k = 31) (hv : fieldsF k = 1) (h0 : J 0 w) (hno : ∀ n u u', J n u → Tn No u u' → J n u')
    (hs : ∀ n y z u, (usesF ⟨k, d, a, b, l, f, cond, real, size, imm, av, args⟩)[n]? = some (y, z) → J n u → Calls Tryz.prog K (#[.int .i64 y, .int .i64 z] ++ cs) u fun e w' => e = .returned (.tuple #[]) ∧ J (n + 1) w' ∧ Tn F u w') :
    Calls Tryz.prog 140 #[.agg #[.int .i64 k, .int .i64 d, .int .i64 a, .int .i64 b, .int .i64 l, .int .i64 f, .int .i64 cond, .int .i64 real, .int .i64 size, .int .i64 imm, av], .func (.func K) #[] cs] w fun e w' => e = .returned (.tuple #[]) ∧ J (usesF ⟨k, d, a, b, l, f, cond, real, size, imm, av, args⟩).length w' ∧ Tn F w w' := by
  have HB := uses_box F k d a b l f cond real size imm av w hF
  have HFi : Hid (∀ u, Calls Tryz.prog 96 #[.int .i64 k] u fun e w' => e = .returned (.int .i64 1) ∧ w' = u) := hid (fun u => by have := fields_raw k u; rw [hv] at this; exact this)
  have HU : Hid (usesF ⟨k, d, a, b, l, f, cond, real, size, imm, av, args⟩ = [(2, imm), (1, d)]) := hid (by unfold usesF bit; simp only [hv]; simp [hk])
  have eK : ∀ (args : Array Value) (w : World), (callFunc K args).run Tryz.prog w = .ok (.enter K args) w := hE
  have HS := hid hs
  have HNo := hid hno
  have J0 := hno 0 w _ h0 ((Tn.refl No w).alloc (.cells #[.int .i64 k, .int .i64 d, .int .i64 a, .int .i64 b, .int .i64 l, .int .i64 f, .int .i64 cond, .int .i64 real, .int .i64 size, .int .i64 imm, av] 79))
  have HT0 : Hid (∀ u, Tn F (w.alloc (.cells #[.int .i64 k, .int .i64 d, .int .i64 a, .int .i64 b, .int .i64 l, .int .i64 f, .int .i64 cond, .int .i64 real, .int .i64 size, .int .i64 imm, av] 79)) u → Tn F w u) := hid (fun u t => ((Tn.refl F w).alloc _).then t)
  have T0 : Tn F (w.alloc (.cells #[.int .i64 k, .int .i64 d, .int .i64 a, .int .i64 b, .int .i64 l, .int .i64 f, .int .i64 cond, .int .i64 real, .int .i64 size, .int .i64 imm, av] 79)) (w.alloc (.cells #[.int .i64 k, .int .i64 d, .int .i64 a, .int .i64 b, .int .i64 l, .int .i64 f, .int .i64 cond, .int .i64 real, .int .i64 size, .int .i64 imm, av] 79)) := Tn.refl _ _
  subst hk
  clear h0 hno hs hF hE
  obtain ⟨p0, p1, p2, p3, p9, p10, pz⟩ := HB.out _ T0
  go_enter Tryz.func140, Tryz.ntmps140
  go_wp2_with (first
    | (go_at_call 96; refine (HFi.out _).mono ?_; rintro e w1 ⟨rfl, rfl⟩)
    | (go_at_fn K; refine (HS.out 1 _ _ _ (by rw [HU.out]; rfl) J1).mono ?_; rintro e w3 ⟨rfl, J2, t1⟩; have T2 := T1.then t1; obtain ⟨p0, p1, p2, p3, p9, p10, pz⟩ := HB.out _ T2; clear t1)
    | (go_at_fn K; refine (HS.out 0 _ _ _ (by rw [HU.out]; rfl) J0).mono ?_; rintro e w2 ⟨rfl, J1, t0⟩; have T1 := T0.then t0; obtain ⟨p0, p1, p2, p3, p9, p10, pz⟩ := HB.out _ T1; clear t0))
  go_end0
  exact ⟨rfl, by rw [HU.out]; exact J2, HT0.out _ T2⟩

set_option maxHeartbeats 4000000 in
set_option maxRecDepth 100000 in
theorem uses_put (hE : Enters Tryz.prog K) (hF : ∀ i, F i → i < w.heap.size) (hk : k = 32) (hv : fieldsF k = 2) (h0 : J 0 w) (hno : ∀ n u u', J n u → Tn No u u' → J n u')
    (hs : ∀ n y z u, (usesF ⟨k, d, a, b, l, f, cond, real, size, imm, av, args⟩)[n]? = some (y, z) → J n u → Calls Tryz.prog K (#[.int .i64 y, .int .i64 z] ++ cs) u fun e w' => e = .returned (.tuple #[]) ∧ J (n + 1) w' ∧ Tn F u w') :
    Calls Tryz.prog 140 #[.agg #[.int .i64 k, .int .i64 d, .int .i64 a, .int .i64 b, .int .i64 l, .int .i64 f, .int .i64 cond, .int .i64 real, .int .i64 size, .int .i64 imm, av], .func (.func K) #[] cs] w fun e w' => e = .returned (.tuple #[]) ∧ J (usesF ⟨k, d, a, b, l, f, cond, real, size, imm, av, args⟩).length w' ∧ Tn F w w' := by
  have HB := uses_box F k d a b l f cond real size imm av w hF
  have HFi : Hid (∀ u, Calls Tryz.prog 96 #[.int .i64 k] u fun e w' => e = .returned (.int .i64 2) ∧ w' = u) := hid (fun u => by have := fields_raw k u; rw [hv] at this; exact this)
  have HU : Hid (usesF ⟨k, d, a, b, l, f, cond, real, size, imm, av, args⟩ = [(0, a), (3, imm)]) := hid (by unfold usesF bit; simp only [hv]; simp [hk])
  have eK : ∀ (args : Array Value) (w : World), (callFunc K args).run Tryz.prog w = .ok (.enter K args) w := hE
  have HS := hid hs
  have HNo := hid hno
  have J0 := hno 0 w _ h0 ((Tn.refl No w).alloc (.cells #[.int .i64 k, .int .i64 d, .int .i64 a, .int .i64 b, .int .i64 l, .int .i64 f, .int .i64 cond, .int .i64 real, .int .i64 size, .int .i64 imm, av] 79))
  have HT0 : Hid (∀ u, Tn F (w.alloc (.cells #[.int .i64 k, .int .i64 d, .int .i64 a, .int .i64 b, .int .i64 l, .int .i64 f, .int .i64 cond, .int .i64 real, .int .i64 size, .int .i64 imm, av] 79)) u → Tn F w u) := hid (fun u t => ((Tn.refl F w).alloc _).then t)
  have T0 : Tn F (w.alloc (.cells #[.int .i64 k, .int .i64 d, .int .i64 a, .int .i64 b, .int .i64 l, .int .i64 f, .int .i64 cond, .int .i64 real, .int .i64 size, .int .i64 imm, av] 79)) (w.alloc (.cells #[.int .i64 k, .int .i64 d, .int .i64 a, .int .i64 b, .int .i64 l, .int .i64 f, .int .i64 cond, .int .i64 real, .int .i64 size, .int .i64 imm, av] 79)) := Tn.refl _ _
  subst hk
  clear h0 hno hs hF hE
  obtain ⟨p0, p1, p2, p3, p9, p10, pz⟩ := HB.out _ T0
  go_enter Tryz.func140, Tryz.ntmps140
  go_wp2_with (first
    | (go_at_call 96; refine (HFi.out _).mono ?_; rintro e w1 ⟨rfl, rfl⟩)
    | (go_at_fn K; refine (HS.out 1 _ _ _ (by rw [HU.out]; rfl) J1).mono ?_; rintro e w3 ⟨rfl, J2, t1⟩; have T2 := T1.then t1; obtain ⟨p0, p1, p2, p3, p9, p10, pz⟩ := HB.out _ T2; clear t1)
    | (go_at_fn K; refine (HS.out 0 _ _ _ (by rw [HU.out]; rfl) J0).mono ?_; rintro e w2 ⟨rfl, J1, t0⟩; have T1 := T0.then t0; obtain ⟨p0, p1, p2, p3, p9, p10, pz⟩ := HB.out _ T1; clear t0))
  go_end0
  exact ⟨rfl, by rw [HU.out]; exact J2, HT0.out _ T2⟩

set_option maxHeartbeats 4000000 in
set_option maxRecDepth 100000 in
theorem uses_49 (hE : Enters Tryz.prog K) (hF : ∀ i, F i → i < w.heap.size) (h31 : k ≠ 31) (h32 : k ≠ 32) (hv : fieldsF k = 49) (h0 : J 0 w) (hno : ∀ n u u', J n u → Tn No u u' → J n u') (hld : LD 1 eI w av args) (hfa : 0 < args.length → ∀ g, av.ownBlock = some g → ¬ F g) (hl : args.length ≤ 1073741824)
    (hs : ∀ n y z u, (usesF ⟨k, d, a, b, l, f, cond, real, size, imm, av, args⟩)[n]? = some (y, z) → J n u → Calls Tryz.prog K (#[.int .i64 y, .int .i64 z] ++ cs) u fun e w' => e = .returned (.tuple #[]) ∧ J (n + 1) w' ∧ Tn F u w') :
    Calls Tryz.prog 140 #[.agg #[.int .i64 k, .int .i64 d, .int .i64 a, .int .i64 b, .int .i64 l, .int .i64 f, .int .i64 cond, .int .i64 real, .int .i64 size, .int .i64 imm, av], .func (.func K) #[] cs] w fun e w' => e = .returned (.tuple #[]) ∧ J (usesF ⟨k, d, a, b, l, f, cond, real, size, imm, av, args⟩).length w' ∧ Tn F w w' := by
  have n31 : (k == 31) = false := by simpa using h31
  have n32 : (k == 32) = false := by simpa using h32
  obtain ⟨ad, c, rfl, hc, hcm, hat⟩ := hld
  have HB := uses_box F k d a b l f cond real size imm (.slice ad args.length c) w hF
  have HFi : Hid (∀ u, Calls Tryz.prog 96 #[.int .i64 k] u fun e w' => e = .returned (.int .i64 49) ∧ w' = u) := hid (fun u => by have := fields_raw k u; rw [hv] at this; exact this)
  have HU : usesF ⟨k, d, a, b, l, f, cond, real, size, imm, .slice ad args.length c, args⟩ = [] ++ (args.map (fun y => ((0 : Int), y)) ++ [(1, d)]) := by unfold usesF bit; simp only [hv]; simp [h31, h32]
  rw [HU]
  have hlen : ([] ++ (args.map (fun y => ((0 : Int), y)) ++ [(1, d)])).length = args.length + 1 := by simp
  rw [hlen]
  have eK : ∀ (args : Array Value) (w : World), (callFunc K args).run Tryz.prog w = .ok (.enter K args) w := hE
  have HSA : Hid (∀ i (hi : i < args.length) u, J (i) u → Calls Tryz.prog K (#[.int .i64 0, .int .i64 args[i]] ++ cs) u fun e w' => e = .returned (.tuple #[]) ∧ J (i + 1) w' ∧ Tn F u w') := hid (fun i hi u hj => hs _ 0 args[i] u (by rw [HU]; exact use_at i hi) hj)
  have HSP : Hid (∀ u, J (args.length) u → Calls Tryz.prog K (#[.int .i64 1, .int .i64 d] ++ cs) u fun e w' => e = .returned (.tuple #[]) ∧ J (args.length + 1) w' ∧ Tn F u w') := hid (fun u hj => hs _ 1 d u (by rw [HU]; exact use_end) hj)
  have HAT : Hid (∀ u, Tn F w u → ∀ i (hi : i < args.length), ∃ g o, ad = some ⟨g, o, none⟩ ∧ u.cell? ⟨g, o + i, none⟩ = some (.int .i64 args[i])) := hid (fun u t i hi => by
    obtain ⟨g, o, rfl, hg, hcell⟩ := hat (by omega)
    refine ⟨g, o, rfl, ?_⟩
    rw [t.cell hg (hfa (by omega) g rfl)]
    have := hcell i hi 0 (by omega)
    simpa [eI] using this)
  have J0 := hno 0 w _ h0 ((Tn.refl No w).alloc (.cells #[.int .i64 k, .int .i64 d, .int .i64 a, .int .i64 b, .int .i64 l, .int .i64 f, .int .i64 cond, .int .i64 real, .int .i64 size, .int .i64 imm, .slice ad args.length c] 79))
  clear hat hs hno h0 hfa HU hlen hE hF hv h31 h32
  obtain ⟨m, hm⟩ : ∃ m, args.length = m := ⟨_, rfl⟩
  have HM := hid hm
  rw [hm] at hc hl HB J0 HSP
  rw [hm]
  clear hm
  have HT0 : Hid (∀ u, Tn F (w.alloc (.cells #[.int .i64 k, .int .i64 d, .int .i64 a, .int .i64 b, .int .i64 l, .int .i64 f, .int .i64 cond, .int .i64 real, .int .i64 size, .int .i64 imm, .slice ad m c] 79)) u → Tn F w u) := hid (fun u t => ((Tn.refl F w).alloc _).then t)
  have T0 : Tn F (w.alloc (.cells #[.int .i64 k, .int .i64 d, .int .i64 a, .int .i64 b, .int .i64 l, .int .i64 f, .int .i64 cond, .int .i64 real, .int .i64 size, .int .i64 imm, .slice ad m c] 79)) (w.alloc (.cells #[.int .i64 k, .int .i64 d, .int .i64 a, .int .i64 b, .int .i64 l, .int .i64 f, .int .i64 cond, .int .i64 real, .int .i64 size, .int .i64 imm, .slice ad m c] 79)) := Tn.refl _ _
  obtain ⟨p0, p1, p2, p3, p9, p10, pz⟩ := HB.out _ T0
  have b2 : (bits BinOp.and IntKind.i64 49 2 != 0) = false := by decide
  have b4 : (bits BinOp.and IntKind.i64 49 4 != 0) = false := by decide
  have b32 : (bits BinOp.and IntKind.i64 49 32 != 0) = true := by decide
  have b1 : (bits BinOp.and IntKind.i64 49 1 != 0) = true := by decide
  go_enter Tryz.func140, Tryz.ntmps140
  go_wp2_with (first
    | (go_at_call 96; refine (HFi.out _).mono ?_; rintro e w1 ⟨rfl, rfl⟩)
    )
  go_loopw [30] (fun i wr => ∃ q : Nat, q ≤ m ∧ i = .int .i64 (q : Int) ∧ J (q) wr ∧ Tn F (w.alloc (.cells #[.int .i64 k, .int .i64 d, .int .i64 a, .int .i64 b, .int .i64 l, .int .i64 f, .int .i64 cond, .int .i64 real, .int .i64 size, .int .i64 imm, .slice ad m c] 79)) wr) (fun i _ => m - (intOf i).toNat)
  case atStart => exact ⟨0, by omega, rfl, J0, T0⟩
  case round =>
    obtain ⟨q, hq, rfl, JQ, TQ⟩ := hrel
    clear p0 p1 p2 p3 p9 p10 pz
    obtain ⟨p0, p1, p2, p3, p9, p10, pz⟩ := HB.out _ TQ
    by_cases hlt : q < m
    · obtain ⟨g, o, rfl, hcell⟩ := HAT.out _ (HT0.out _ TQ) q (by have := HM.out; omega)
      have hca := HSA.out q (by have := HM.out; omega) wr JQ
      obtain ⟨y, hy⟩ : ∃ y, args[q]'(by have := HM.out; omega) = y := ⟨_, rfl⟩
      rw [hy] at hcell hca
      have HCA := hid hca
      have hqi : (q : Int) < (m : Int) := by omega
      clear hca hy HAT HSA
      go_wp2_with (go_at_fn K; refine HCA.out.mono ?_; rintro e w5 ⟨rfl, J5, t5⟩; have T5 := TQ.then t5; clear t5)
      go_roundw
      case rel => exact ⟨q + 1, by omega, by go_num, J5, T5⟩
      case measure => simp [intOf]; omega
    · obtain rfl : q = m := by omega
      clear HAT HSA HM
      go_wp2_with (first
        | fail
        | (go_at_fn K; refine (HSP.out _ JQ).mono ?_; rintro e w6 ⟨rfl, J6, t6⟩; have T6 := TQ.then t6; clear t6))
      go_end0
      exact ⟨rfl, J6, HT0.out _ T6⟩

set_option maxHeartbeats 4000000 in
set_option maxRecDepth 100000 in
theorem uses_35 (hE : Enters Tryz.prog K) (hF : ∀ i, F i → i < w.heap.size) (h31 : k ≠ 31) (h32 : k ≠ 32) (hv : fieldsF k = 35) (h0 : J 0 w) (hno : ∀ n u u', J n u → Tn No u u' → J n u') (hld : LD 1 eI w av args) (hfa : 0 < args.length → ∀ g, av.ownBlock = some g → ¬ F g) (hl : args.length ≤ 1073741824)
    (hs : ∀ n y z u, (usesF ⟨k, d, a, b, l, f, cond, real, size, imm, av, args⟩)[n]? = some (y, z) → J n u → Calls Tryz.prog K (#[.int .i64 y, .int .i64 z] ++ cs) u fun e w' => e = .returned (.tuple #[]) ∧ J (n + 1) w' ∧ Tn F u w') :
    Calls Tryz.prog 140 #[.agg #[.int .i64 k, .int .i64 d, .int .i64 a, .int .i64 b, .int .i64 l, .int .i64 f, .int .i64 cond, .int .i64 real, .int .i64 size, .int .i64 imm, av], .func (.func K) #[] cs] w fun e w' => e = .returned (.tuple #[]) ∧ J (usesF ⟨k, d, a, b, l, f, cond, real, size, imm, av, args⟩).length w' ∧ Tn F w w' := by
  have n31 : (k == 31) = false := by simpa using h31
  have n32 : (k == 32) = false := by simpa using h32
  obtain ⟨ad, c, rfl, hc, hcm, hat⟩ := hld
  have HB := uses_box F k d a b l f cond real size imm (.slice ad args.length c) w hF
  have HFi : Hid (∀ u, Calls Tryz.prog 96 #[.int .i64 k] u fun e w' => e = .returned (.int .i64 35) ∧ w' = u) := hid (fun u => by have := fields_raw k u; rw [hv] at this; exact this)
  have HU : usesF ⟨k, d, a, b, l, f, cond, real, size, imm, .slice ad args.length c, args⟩ = [(0, a)] ++ (args.map (fun y => ((0 : Int), y)) ++ [(1, d)]) := by unfold usesF bit; simp only [hv]; simp [h31, h32]
  rw [HU]
  have hlen : ([(0, a)] ++ (args.map (fun y => ((0 : Int), y)) ++ [(1, d)])).length = args.length + 2 := by simp
  rw [hlen]
  have eK : ∀ (args : Array Value) (w : World), (callFunc K args).run Tryz.prog w = .ok (.enter K args) w := hE
  have HS0 : Hid (∀ u, J 0 u → Calls Tryz.prog K (#[.int .i64 0, .int .i64 a] ++ cs) u fun e w' => e = .returned (.tuple #[]) ∧ J 1 w' ∧ Tn F u w') := hid (fun u hj => hs 0 0 a u (by rw [HU]; simp) hj)
  have HSA : Hid (∀ i (hi : i < args.length) u, J (i + 1) u → Calls Tryz.prog K (#[.int .i64 0, .int .i64 args[i]] ++ cs) u fun e w' => e = .returned (.tuple #[]) ∧ J (i + 2) w' ∧ Tn F u w') := hid (fun i hi u hj => hs _ 0 args[i] u (by rw [HU]; exact use_at i hi) hj)
  have HSP : Hid (∀ u, J (args.length + 1) u → Calls Tryz.prog K (#[.int .i64 1, .int .i64 d] ++ cs) u fun e w' => e = .returned (.tuple #[]) ∧ J (args.length + 2) w' ∧ Tn F u w') := hid (fun u hj => hs _ 1 d u (by rw [HU]; exact use_end) hj)
  have HAT : Hid (∀ u, Tn F w u → ∀ i (hi : i < args.length), ∃ g o, ad = some ⟨g, o, none⟩ ∧ u.cell? ⟨g, o + i, none⟩ = some (.int .i64 args[i])) := hid (fun u t i hi => by
    obtain ⟨g, o, rfl, hg, hcell⟩ := hat (by omega)
    refine ⟨g, o, rfl, ?_⟩
    rw [t.cell hg (hfa (by omega) g rfl)]
    have := hcell i hi 0 (by omega)
    simpa [eI] using this)
  have J0 := hno 0 w _ h0 ((Tn.refl No w).alloc (.cells #[.int .i64 k, .int .i64 d, .int .i64 a, .int .i64 b, .int .i64 l, .int .i64 f, .int .i64 cond, .int .i64 real, .int .i64 size, .int .i64 imm, .slice ad args.length c] 79))
  clear hat hs hno h0 hfa HU hlen hE hF hv h31 h32
  obtain ⟨m, hm⟩ : ∃ m, args.length = m := ⟨_, rfl⟩
  have HM := hid hm
  rw [hm] at hc hl HB J0 HSP
  rw [hm]
  clear hm
  have HT0 : Hid (∀ u, Tn F (w.alloc (.cells #[.int .i64 k, .int .i64 d, .int .i64 a, .int .i64 b, .int .i64 l, .int .i64 f, .int .i64 cond, .int .i64 real, .int .i64 size, .int .i64 imm, .slice ad m c] 79)) u → Tn F w u) := hid (fun u t => ((Tn.refl F w).alloc _).then t)
  have T0 : Tn F (w.alloc (.cells #[.int .i64 k, .int .i64 d, .int .i64 a, .int .i64 b, .int .i64 l, .int .i64 f, .int .i64 cond, .int .i64 real, .int .i64 size, .int .i64 imm, .slice ad m c] 79)) (w.alloc (.cells #[.int .i64 k, .int .i64 d, .int .i64 a, .int .i64 b, .int .i64 l, .int .i64 f, .int .i64 cond, .int .i64 real, .int .i64 size, .int .i64 imm, .slice ad m c] 79)) := Tn.refl _ _
  obtain ⟨p0, p1, p2, p3, p9, p10, pz⟩ := HB.out _ T0
  have b2 : (bits BinOp.and IntKind.i64 35 2 != 0) = true := by decide
  have b4 : (bits BinOp.and IntKind.i64 35 4 != 0) = false := by decide
  have b32 : (bits BinOp.and IntKind.i64 35 32 != 0) = true := by decide
  have b1 : (bits BinOp.and IntKind.i64 35 1 != 0) = true := by decide
  go_enter Tryz.func140, Tryz.ntmps140
  go_wp2_with (first
    | (go_at_call 96; refine (HFi.out _).mono ?_; rintro e w1 ⟨rfl, rfl⟩)
    | (go_at_fn K; refine (HS0.out _ J0).mono ?_; rintro e w2 ⟨rfl, J1, t0⟩; have T1 := T0.then t0; obtain ⟨p0, p1, p2, p3, p9, p10, pz⟩ := HB.out _ T1; clear t0))
  go_loopw [30] (fun i wr => ∃ q : Nat, q ≤ m ∧ i = .int .i64 (q : Int) ∧ J (q + 1) wr ∧ Tn F (w.alloc (.cells #[.int .i64 k, .int .i64 d, .int .i64 a, .int .i64 b, .int .i64 l, .int .i64 f, .int .i64 cond, .int .i64 real, .int .i64 size, .int .i64 imm, .slice ad m c] 79)) wr) (fun i _ => m - (intOf i).toNat)
  case atStart => exact ⟨0, by omega, rfl, J1, T1⟩
  case round =>
    obtain ⟨q, hq, rfl, JQ, TQ⟩ := hrel
    clear p0 p1 p2 p3 p9 p10 pz
    obtain ⟨p0, p1, p2, p3, p9, p10, pz⟩ := HB.out _ TQ
    by_cases hlt : q < m
    · obtain ⟨g, o, rfl, hcell⟩ := HAT.out _ (HT0.out _ TQ) q (by have := HM.out; omega)
      have hca := HSA.out q (by have := HM.out; omega) wr JQ
      obtain ⟨y, hy⟩ : ∃ y, args[q]'(by have := HM.out; omega) = y := ⟨_, rfl⟩
      rw [hy] at hcell hca
      have HCA := hid hca
      have hqi : (q : Int) < (m : Int) := by omega
      clear hca hy HAT HSA
      go_wp2_with (go_at_fn K; refine HCA.out.mono ?_; rintro e w5 ⟨rfl, J5, t5⟩; have T5 := TQ.then t5; clear t5)
      go_roundw
      case rel => exact ⟨q + 1, by omega, by go_num, J5, T5⟩
      case measure => simp [intOf]; omega
    · obtain rfl : q = m := by omega
      clear HAT HSA HM
      go_wp2_with (first
        | fail
        | (go_at_fn K; refine (HSP.out _ JQ).mono ?_; rintro e w6 ⟨rfl, J6, t6⟩; have T6 := TQ.then t6; clear t6))
      go_end0
      exact ⟨rfl, J6, HT0.out _ T6⟩

set_option maxHeartbeats 4000000 in
set_option maxRecDepth 100000 in
theorem uses_48 (hE : Enters Tryz.prog K) (hF : ∀ i, F i → i < w.heap.size) (h31 : k ≠ 31) (h32 : k ≠ 32) (hv : fieldsF k = 48) (h0 : J 0 w) (hno : ∀ n u u', J n u → Tn No u u' → J n u') (hld : LD 1 eI w av args) (hfa : 0 < args.length → ∀ g, av.ownBlock = some g → ¬ F g) (hl : args.length ≤ 1073741824)
    (hs : ∀ n y z u, (usesF ⟨k, d, a, b, l, f, cond, real, size, imm, av, args⟩)[n]? = some (y, z) → J n u → Calls Tryz.prog K (#[.int .i64 y, .int .i64 z] ++ cs) u fun e w' => e = .returned (.tuple #[]) ∧ J (n + 1) w' ∧ Tn F u w') :
    Calls Tryz.prog 140 #[.agg #[.int .i64 k, .int .i64 d, .int .i64 a, .int .i64 b, .int .i64 l, .int .i64 f, .int .i64 cond, .int .i64 real, .int .i64 size, .int .i64 imm, av], .func (.func K) #[] cs] w fun e w' => e = .returned (.tuple #[]) ∧ J (usesF ⟨k, d, a, b, l, f, cond, real, size, imm, av, args⟩).length w' ∧ Tn F w w' := by
  have n31 : (k == 31) = false := by simpa using h31
  have n32 : (k == 32) = false := by simpa using h32
  obtain ⟨ad, c, rfl, hc, hcm, hat⟩ := hld
  have HB := uses_box F k d a b l f cond real size imm (.slice ad args.length c) w hF
  have HFi : Hid (∀ u, Calls Tryz.prog 96 #[.int .i64 k] u fun e w' => e = .returned (.int .i64 48) ∧ w' = u) := hid (fun u => by have := fields_raw k u; rw [hv] at this; exact this)
  have HU : usesF ⟨k, d, a, b, l, f, cond, real, size, imm, .slice ad args.length c, args⟩ = [] ++ (args.map (fun y => ((0 : Int), y)) ++ []) := by unfold usesF bit; simp only [hv]; simp [h31, h32]
  rw [HU]
  have hlen : ([] ++ (args.map (fun y => ((0 : Int), y)) ++ [])).length = args.length + 0 := by simp
  rw [hlen]
  have eK : ∀ (args : Array Value) (w : World), (callFunc K args).run Tryz.prog w = .ok (.enter K args) w := hE
  have HSA : Hid (∀ i (hi : i < args.length) u, J (i) u → Calls Tryz.prog K (#[.int .i64 0, .int .i64 args[i]] ++ cs) u fun e w' => e = .returned (.tuple #[]) ∧ J (i + 1) w' ∧ Tn F u w') := hid (fun i hi u hj => hs _ 0 args[i] u (by rw [HU]; exact use_at i hi) hj)
  have HAT : Hid (∀ u, Tn F w u → ∀ i (hi : i < args.length), ∃ g o, ad = some ⟨g, o, none⟩ ∧ u.cell? ⟨g, o + i, none⟩ = some (.int .i64 args[i])) := hid (fun u t i hi => by
    obtain ⟨g, o, rfl, hg, hcell⟩ := hat (by omega)
    refine ⟨g, o, rfl, ?_⟩
    rw [t.cell hg (hfa (by omega) g rfl)]
    have := hcell i hi 0 (by omega)
    simpa [eI] using this)
  have J0 := hno 0 w _ h0 ((Tn.refl No w).alloc (.cells #[.int .i64 k, .int .i64 d, .int .i64 a, .int .i64 b, .int .i64 l, .int .i64 f, .int .i64 cond, .int .i64 real, .int .i64 size, .int .i64 imm, .slice ad args.length c] 79))
  clear hat hs hno h0 hfa HU hlen hE hF hv h31 h32
  obtain ⟨m, hm⟩ : ∃ m, args.length = m := ⟨_, rfl⟩
  have HM := hid hm
  rw [hm] at hc hl HB J0
  rw [hm]
  clear hm
  have HT0 : Hid (∀ u, Tn F (w.alloc (.cells #[.int .i64 k, .int .i64 d, .int .i64 a, .int .i64 b, .int .i64 l, .int .i64 f, .int .i64 cond, .int .i64 real, .int .i64 size, .int .i64 imm, .slice ad m c] 79)) u → Tn F w u) := hid (fun u t => ((Tn.refl F w).alloc _).then t)
  have T0 : Tn F (w.alloc (.cells #[.int .i64 k, .int .i64 d, .int .i64 a, .int .i64 b, .int .i64 l, .int .i64 f, .int .i64 cond, .int .i64 real, .int .i64 size, .int .i64 imm, .slice ad m c] 79)) (w.alloc (.cells #[.int .i64 k, .int .i64 d, .int .i64 a, .int .i64 b, .int .i64 l, .int .i64 f, .int .i64 cond, .int .i64 real, .int .i64 size, .int .i64 imm, .slice ad m c] 79)) := Tn.refl _ _
  obtain ⟨p0, p1, p2, p3, p9, p10, pz⟩ := HB.out _ T0
  have b2 : (bits BinOp.and IntKind.i64 48 2 != 0) = false := by decide
  have b4 : (bits BinOp.and IntKind.i64 48 4 != 0) = false := by decide
  have b32 : (bits BinOp.and IntKind.i64 48 32 != 0) = true := by decide
  have b1 : (bits BinOp.and IntKind.i64 48 1 != 0) = false := by decide
  go_enter Tryz.func140, Tryz.ntmps140
  go_wp2_with (first
    | (go_at_call 96; refine (HFi.out _).mono ?_; rintro e w1 ⟨rfl, rfl⟩)
    )
  go_loopw [30] (fun i wr => ∃ q : Nat, q ≤ m ∧ i = .int .i64 (q : Int) ∧ J (q) wr ∧ Tn F (w.alloc (.cells #[.int .i64 k, .int .i64 d, .int .i64 a, .int .i64 b, .int .i64 l, .int .i64 f, .int .i64 cond, .int .i64 real, .int .i64 size, .int .i64 imm, .slice ad m c] 79)) wr) (fun i _ => m - (intOf i).toNat)
  case atStart => exact ⟨0, by omega, rfl, J0, T0⟩
  case round =>
    obtain ⟨q, hq, rfl, JQ, TQ⟩ := hrel
    clear p0 p1 p2 p3 p9 p10 pz
    obtain ⟨p0, p1, p2, p3, p9, p10, pz⟩ := HB.out _ TQ
    by_cases hlt : q < m
    · obtain ⟨g, o, rfl, hcell⟩ := HAT.out _ (HT0.out _ TQ) q (by have := HM.out; omega)
      have hca := HSA.out q (by have := HM.out; omega) wr JQ
      obtain ⟨y, hy⟩ : ∃ y, args[q]'(by have := HM.out; omega) = y := ⟨_, rfl⟩
      rw [hy] at hcell hca
      have HCA := hid hca
      have hqi : (q : Int) < (m : Int) := by omega
      clear hca hy HAT HSA
      go_wp2_with (go_at_fn K; refine HCA.out.mono ?_; rintro e w5 ⟨rfl, J5, t5⟩; have T5 := TQ.then t5; clear t5)
      go_roundw
      case rel => exact ⟨q + 1, by omega, by go_num, J5, T5⟩
      case measure => simp [intOf]; omega
    · obtain rfl : q = m := by omega
      clear HAT HSA HM
      go_wp2_with (first
        | fail
        )
      go_end0
      exact ⟨rfl, JQ, HT0.out _ TQ⟩

set_option maxHeartbeats 4000000 in
set_option maxRecDepth 100000 in
theorem uses_34 (hE : Enters Tryz.prog K) (hF : ∀ i, F i → i < w.heap.size) (h31 : k ≠ 31) (h32 : k ≠ 32) (hv : fieldsF k = 34) (h0 : J 0 w) (hno : ∀ n u u', J n u → Tn No u u' → J n u') (hld : LD 1 eI w av args) (hfa : 0 < args.length → ∀ g, av.ownBlock = some g → ¬ F g) (hl : args.length ≤ 1073741824)
    (hs : ∀ n y z u, (usesF ⟨k, d, a, b, l, f, cond, real, size, imm, av, args⟩)[n]? = some (y, z) → J n u → Calls Tryz.prog K (#[.int .i64 y, .int .i64 z] ++ cs) u fun e w' => e = .returned (.tuple #[]) ∧ J (n + 1) w' ∧ Tn F u w') :
    Calls Tryz.prog 140 #[.agg #[.int .i64 k, .int .i64 d, .int .i64 a, .int .i64 b, .int .i64 l, .int .i64 f, .int .i64 cond, .int .i64 real, .int .i64 size, .int .i64 imm, av], .func (.func K) #[] cs] w fun e w' => e = .returned (.tuple #[]) ∧ J (usesF ⟨k, d, a, b, l, f, cond, real, size, imm, av, args⟩).length w' ∧ Tn F w w' := by
  have n31 : (k == 31) = false := by simpa using h31
  have n32 : (k == 32) = false := by simpa using h32
  obtain ⟨ad, c, rfl, hc, hcm, hat⟩ := hld
  have HB := uses_box F k d a b l f cond real size imm (.slice ad args.length c) w hF
  have HFi : Hid (∀ u, Calls Tryz.prog 96 #[.int .i64 k] u fun e w' => e = .returned (.int .i64 34) ∧ w' = u) := hid (fun u => by have := fields_raw k u; rw [hv] at this; exact this)
  have HU : usesF ⟨k, d, a, b, l, f, cond, real, size, imm, .slice ad args.length c, args⟩ = [(0, a)] ++ (args.map (fun y => ((0 : Int), y)) ++ []) := by unfold usesF bit; simp only [hv]; simp [h31, h32]
  rw [HU]
  have hlen : ([(0, a)] ++ (args.map (fun y => ((0 : Int), y)) ++ [])).length = args.length + 1 := by simp
  rw [hlen]
  have eK : ∀ (args : Array Value) (w : World), (callFunc K args).run Tryz.prog w = .ok (.enter K args) w := hE
  have HS0 : Hid (∀ u, J 0 u → Calls Tryz.prog K (#[.int .i64 0, .int .i64 a] ++ cs) u fun e w' => e = .returned (.tuple #[]) ∧ J 1 w' ∧ Tn F u w') := hid (fun u hj => hs 0 0 a u (by rw [HU]; simp) hj)
  have HSA : Hid (∀ i (hi : i < args.length) u, J (i + 1) u → Calls Tryz.prog K (#[.int .i64 0, .int .i64 args[i]] ++ cs) u fun e w' => e = .returned (.tuple #[]) ∧ J (i + 2) w' ∧ Tn F u w') := hid (fun i hi u hj => hs _ 0 args[i] u (by rw [HU]; exact use_at i hi) hj)
  have HAT : Hid (∀ u, Tn F w u → ∀ i (hi : i < args.length), ∃ g o, ad = some ⟨g, o, none⟩ ∧ u.cell? ⟨g, o + i, none⟩ = some (.int .i64 args[i])) := hid (fun u t i hi => by
    obtain ⟨g, o, rfl, hg, hcell⟩ := hat (by omega)
    refine ⟨g, o, rfl, ?_⟩
    rw [t.cell hg (hfa (by omega) g rfl)]
    have := hcell i hi 0 (by omega)
    simpa [eI] using this)
  have J0 := hno 0 w _ h0 ((Tn.refl No w).alloc (.cells #[.int .i64 k, .int .i64 d, .int .i64 a, .int .i64 b, .int .i64 l, .int .i64 f, .int .i64 cond, .int .i64 real, .int .i64 size, .int .i64 imm, .slice ad args.length c] 79))
  clear hat hs hno h0 hfa HU hlen hE hF hv h31 h32
  obtain ⟨m, hm⟩ : ∃ m, args.length = m := ⟨_, rfl⟩
  have HM := hid hm
  rw [hm] at hc hl HB J0
  rw [hm]
  clear hm
  have HT0 : Hid (∀ u, Tn F (w.alloc (.cells #[.int .i64 k, .int .i64 d, .int .i64 a, .int .i64 b, .int .i64 l, .int .i64 f, .int .i64 cond, .int .i64 real, .int .i64 size, .int .i64 imm, .slice ad m c] 79)) u → Tn F w u) := hid (fun u t => ((Tn.refl F w).alloc _).then t)
  have T0 : Tn F (w.alloc (.cells #[.int .i64 k, .int .i64 d, .int .i64 a, .int .i64 b, .int .i64 l, .int .i64 f, .int .i64 cond, .int .i64 real, .int .i64 size, .int .i64 imm, .slice ad m c] 79)) (w.alloc (.cells #[.int .i64 k, .int .i64 d, .int .i64 a, .int .i64 b, .int .i64 l, .int .i64 f, .int .i64 cond, .int .i64 real, .int .i64 size, .int .i64 imm, .slice ad m c] 79)) := Tn.refl _ _
  obtain ⟨p0, p1, p2, p3, p9, p10, pz⟩ := HB.out _ T0
  have b2 : (bits BinOp.and IntKind.i64 34 2 != 0) = true := by decide
  have b4 : (bits BinOp.and IntKind.i64 34 4 != 0) = false := by decide
  have b32 : (bits BinOp.and IntKind.i64 34 32 != 0) = true := by decide
  have b1 : (bits BinOp.and IntKind.i64 34 1 != 0) = false := by decide
  go_enter Tryz.func140, Tryz.ntmps140
  go_wp2_with (first
    | (go_at_call 96; refine (HFi.out _).mono ?_; rintro e w1 ⟨rfl, rfl⟩)
    | (go_at_fn K; refine (HS0.out _ J0).mono ?_; rintro e w2 ⟨rfl, J1, t0⟩; have T1 := T0.then t0; obtain ⟨p0, p1, p2, p3, p9, p10, pz⟩ := HB.out _ T1; clear t0))
  go_loopw [30] (fun i wr => ∃ q : Nat, q ≤ m ∧ i = .int .i64 (q : Int) ∧ J (q + 1) wr ∧ Tn F (w.alloc (.cells #[.int .i64 k, .int .i64 d, .int .i64 a, .int .i64 b, .int .i64 l, .int .i64 f, .int .i64 cond, .int .i64 real, .int .i64 size, .int .i64 imm, .slice ad m c] 79)) wr) (fun i _ => m - (intOf i).toNat)
  case atStart => exact ⟨0, by omega, rfl, J1, T1⟩
  case round =>
    obtain ⟨q, hq, rfl, JQ, TQ⟩ := hrel
    clear p0 p1 p2 p3 p9 p10 pz
    obtain ⟨p0, p1, p2, p3, p9, p10, pz⟩ := HB.out _ TQ
    by_cases hlt : q < m
    · obtain ⟨g, o, rfl, hcell⟩ := HAT.out _ (HT0.out _ TQ) q (by have := HM.out; omega)
      have hca := HSA.out q (by have := HM.out; omega) wr JQ
      obtain ⟨y, hy⟩ : ∃ y, args[q]'(by have := HM.out; omega) = y := ⟨_, rfl⟩
      rw [hy] at hcell hca
      have HCA := hid hca
      have hqi : (q : Int) < (m : Int) := by omega
      clear hca hy HAT HSA
      go_wp2_with (go_at_fn K; refine HCA.out.mono ?_; rintro e w5 ⟨rfl, J5, t5⟩; have T5 := TQ.then t5; clear t5)
      go_roundw
      case rel => exact ⟨q + 1, by omega, by go_num, J5, T5⟩
      case measure => simp [intOf]; omega
    · obtain rfl : q = m := by omega
      clear HAT HSA HM
      go_wp2_with (first
        | fail
        )
      go_end0
      exact ⟨rfl, JQ, HT0.out _ TQ⟩

set_option maxHeartbeats 4000000 in
set_option maxRecDepth 100000 in
theorem uses_33 (hE : Enters Tryz.prog K) (hF : ∀ i, F i → i < w.heap.size) (h31 : k ≠ 31) (h32 : k ≠ 32) (hv : fieldsF k = 33) (h0 : J 0 w) (hno : ∀ n u u', J n u → Tn No u u' → J n u') (hld : LD 1 eI w av args) (hfa : 0 < args.length → ∀ g, av.ownBlock = some g → ¬ F g) (hl : args.length ≤ 1073741824)
    (hs : ∀ n y z u, (usesF ⟨k, d, a, b, l, f, cond, real, size, imm, av, args⟩)[n]? = some (y, z) → J n u → Calls Tryz.prog K (#[.int .i64 y, .int .i64 z] ++ cs) u fun e w' => e = .returned (.tuple #[]) ∧ J (n + 1) w' ∧ Tn F u w') :
    Calls Tryz.prog 140 #[.agg #[.int .i64 k, .int .i64 d, .int .i64 a, .int .i64 b, .int .i64 l, .int .i64 f, .int .i64 cond, .int .i64 real, .int .i64 size, .int .i64 imm, av], .func (.func K) #[] cs] w fun e w' => e = .returned (.tuple #[]) ∧ J (usesF ⟨k, d, a, b, l, f, cond, real, size, imm, av, args⟩).length w' ∧ Tn F w w' := by
  have n31 : (k == 31) = false := by simpa using h31
  have n32 : (k == 32) = false := by simpa using h32
  obtain ⟨ad, c, rfl, hc, hcm, hat⟩ := hld
  have HB := uses_box F k d a b l f cond real size imm (.slice ad args.length c) w hF
  have HFi : Hid (∀ u, Calls Tryz.prog 96 #[.int .i64 k] u fun e w' => e = .returned (.int .i64 33) ∧ w' = u) := hid (fun u => by have := fields_raw k u; rw [hv] at this; exact this)
  have HU : usesF ⟨k, d, a, b, l, f, cond, real, size, imm, .slice ad args.length c, args⟩ = [] ++ (args.map (fun y => ((0 : Int), y)) ++ [(1, d)]) := by unfold usesF bit; simp only [hv]; simp [h31, h32]
  rw [HU]
  have hlen : ([] ++ (args.map (fun y => ((0 : Int), y)) ++ [(1, d)])).length = args.length + 1 := by simp
  rw [hlen]
  have eK : ∀ (args : Array Value) (w : World), (callFunc K args).run Tryz.prog w = .ok (.enter K args) w := hE
  have HSA : Hid (∀ i (hi : i < args.length) u, J (i) u → Calls Tryz.prog K (#[.int .i64 0, .int .i64 args[i]] ++ cs) u fun e w' => e = .returned (.tuple #[]) ∧ J (i + 1) w' ∧ Tn F u w') := hid (fun i hi u hj => hs _ 0 args[i] u (by rw [HU]; exact use_at i hi) hj)
  have HSP : Hid (∀ u, J (args.length) u → Calls Tryz.prog K (#[.int .i64 1, .int .i64 d] ++ cs) u fun e w' => e = .returned (.tuple #[]) ∧ J (args.length + 1) w' ∧ Tn F u w') := hid (fun u hj => hs _ 1 d u (by rw [HU]; exact use_end) hj)
  have HAT : Hid (∀ u, Tn F w u → ∀ i (hi : i < args.length), ∃ g o, ad = some ⟨g, o, none⟩ ∧ u.cell? ⟨g, o + i, none⟩ = some (.int .i64 args[i])) := hid (fun u t i hi => by
    obtain ⟨g, o, rfl, hg, hcell⟩ := hat (by omega)
    refine ⟨g, o, rfl, ?_⟩
    rw [t.cell hg (hfa (by omega) g rfl)]
    have := hcell i hi 0 (by omega)
    simpa [eI] using this)
  have J0 := hno 0 w _ h0 ((Tn.refl No w).alloc (.cells #[.int .i64 k, .int .i64 d, .int .i64 a, .int .i64 b, .int .i64 l, .int .i64 f, .int .i64 cond, .int .i64 real, .int .i64 size, .int .i64 imm, .slice ad args.length c] 79))
  clear hat hs hno h0 hfa HU hlen hE hF hv h31 h32
  obtain ⟨m, hm⟩ : ∃ m, args.length = m := ⟨_, rfl⟩
  have HM := hid hm
  rw [hm] at hc hl HB J0 HSP
  rw [hm]
  clear hm
  have HT0 : Hid (∀ u, Tn F (w.alloc (.cells #[.int .i64 k, .int .i64 d, .int .i64 a, .int .i64 b, .int .i64 l, .int .i64 f, .int .i64 cond, .int .i64 real, .int .i64 size, .int .i64 imm, .slice ad m c] 79)) u → Tn F w u) := hid (fun u t => ((Tn.refl F w).alloc _).then t)
  have T0 : Tn F (w.alloc (.cells #[.int .i64 k, .int .i64 d, .int .i64 a, .int .i64 b, .int .i64 l, .int .i64 f, .int .i64 cond, .int .i64 real, .int .i64 size, .int .i64 imm, .slice ad m c] 79)) (w.alloc (.cells #[.int .i64 k, .int .i64 d, .int .i64 a, .int .i64 b, .int .i64 l, .int .i64 f, .int .i64 cond, .int .i64 real, .int .i64 size, .int .i64 imm, .slice ad m c] 79)) := Tn.refl _ _
  obtain ⟨p0, p1, p2, p3, p9, p10, pz⟩ := HB.out _ T0
  have b2 : (bits BinOp.and IntKind.i64 33 2 != 0) = false := by decide
  have b4 : (bits BinOp.and IntKind.i64 33 4 != 0) = false := by decide
  have b32 : (bits BinOp.and IntKind.i64 33 32 != 0) = true := by decide
  have b1 : (bits BinOp.and IntKind.i64 33 1 != 0) = true := by decide
  go_enter Tryz.func140, Tryz.ntmps140
  go_wp2_with (first
    | (go_at_call 96; refine (HFi.out _).mono ?_; rintro e w1 ⟨rfl, rfl⟩)
    )
  go_loopw [30] (fun i wr => ∃ q : Nat, q ≤ m ∧ i = .int .i64 (q : Int) ∧ J (q) wr ∧ Tn F (w.alloc (.cells #[.int .i64 k, .int .i64 d, .int .i64 a, .int .i64 b, .int .i64 l, .int .i64 f, .int .i64 cond, .int .i64 real, .int .i64 size, .int .i64 imm, .slice ad m c] 79)) wr) (fun i _ => m - (intOf i).toNat)
  case atStart => exact ⟨0, by omega, rfl, J0, T0⟩
  case round =>
    obtain ⟨q, hq, rfl, JQ, TQ⟩ := hrel
    clear p0 p1 p2 p3 p9 p10 pz
    obtain ⟨p0, p1, p2, p3, p9, p10, pz⟩ := HB.out _ TQ
    by_cases hlt : q < m
    · obtain ⟨g, o, rfl, hcell⟩ := HAT.out _ (HT0.out _ TQ) q (by have := HM.out; omega)
      have hca := HSA.out q (by have := HM.out; omega) wr JQ
      obtain ⟨y, hy⟩ : ∃ y, args[q]'(by have := HM.out; omega) = y := ⟨_, rfl⟩
      rw [hy] at hcell hca
      have HCA := hid hca
      have hqi : (q : Int) < (m : Int) := by omega
      clear hca hy HAT HSA
      go_wp2_with (go_at_fn K; refine HCA.out.mono ?_; rintro e w5 ⟨rfl, J5, t5⟩; have T5 := TQ.then t5; clear t5)
      go_roundw
      case rel => exact ⟨q + 1, by omega, by go_num, J5, T5⟩
      case measure => simp [intOf]; omega
    · obtain rfl : q = m := by omega
      clear HAT HSA HM
      go_wp2_with (first
        | fail
        | (go_at_fn K; refine (HSP.out _ JQ).mono ?_; rintro e w6 ⟨rfl, J6, t6⟩; have T6 := TQ.then t6; clear t6))
      go_end0
      exact ⟨rfl, J6, HT0.out _ T6⟩

/-- what an instruction does with registers and slots is told, one by one -/
theorem uses_raw (x : Wd) (hx : WA w x) (hE : Enters Tryz.prog K) (hF : ∀ i, F i → i < w.heap.size) (hfa : 0 < x.args.length → ∀ g, x.av.ownBlock = some g → ¬ F g) (h0 : J 0 w) (hno : ∀ n u u', J n u → Tn No u u' → J n u')
    (hs : ∀ n y z u, (usesF x)[n]? = some (y, z) → J n u → Calls Tryz.prog K (#[.int .i64 y, .int .i64 z] ++ cs) u fun e w' => e = .returned (.tuple #[]) ∧ J (n + 1) w' ∧ Tn F u w') :
    Calls Tryz.prog 140 #[x.val, .func (.func K) #[] cs] w fun e w' => e = .returned (.tuple #[]) ∧ J (usesF x).length w' ∧ Tn F w w' := by
  obtain ⟨k, d, a, b, l, f, cond, real, size, imm, av, args⟩ := x
  have hld := hx.args
  have hl := hx.len
  unfold Wd.val
  simp only at hld hfa hl ⊢
  by_cases h31 : k = 31
  · exact uses_get K cs F J k d a b l f cond real size imm av args w hE hF h31 (by rw [h31]; rfl) h0 hno hs
  by_cases h32 : k = 32
  · exact uses_put K cs F J k d a b l f cond real size imm av args w hE hF h32 (by rw [h32]; rfl) h0 hno hs
  have hc : fieldsF k = 1 ∨ fieldsF k = 3 ∨ fieldsF k = 7 ∨ fieldsF k = 71 ∨ fieldsF k = 135 ∨ fieldsF k = 259 ∨ fieldsF k = 262 ∨ fieldsF k = 8 ∨ fieldsF k = 78 ∨ fieldsF k = 2 ∨ fieldsF k = 17 ∨ fieldsF k = 0 ∨ fieldsF k = 49 ∨ fieldsF k = 35 ∨ fieldsF k = 48 ∨ fieldsF k = 34 ∨ fieldsF k = 33 := by
    by_cases hk : 1 ≤ k ∧ k ≤ 32
    · have cases32 : k = 1 ∨ k = 2 ∨ k = 3 ∨ k = 4 ∨ k = 5 ∨ k = 6 ∨ k = 7 ∨ k = 8 ∨ k = 9 ∨ k = 10 ∨ k = 11 ∨ k = 12 ∨ k = 13 ∨ k = 14 ∨ k = 15 ∨ k = 16 ∨ k = 17 ∨ k = 18 ∨ k = 19 ∨ k = 20 ∨ k = 21 ∨ k = 22 ∨ k = 23 ∨ k = 24 ∨ k = 25 ∨ k = 26 ∨ k = 27 ∨ k = 28 ∨ k = 29 ∨ k = 30 ∨ k = 31 ∨ k = 32 := by omega
      rcases cases32 with rfl | rfl | rfl | rfl | rfl | rfl | rfl | rfl | rfl | rfl | rfl | rfl | rfl | rfl | rfl | rfl | rfl | rfl | rfl | rfl | rfl | rfl | rfl | rfl | rfl | rfl | rfl | rfl | rfl | rfl | rfl | rfl <;> decide
    · have := fieldsF_out (k := k) (by omega)
      rw [this]; decide
  rcases hc with h | h | h | h | h | h | h | h | h | h | h | h | h | h | h | h | h
  · exact uses_1 K cs F J k d a b l f cond real size imm av args w hE hF h31 h32 h h0 hno hs
  · exact uses_3 K cs F J k d a b l f cond real size imm av args w hE hF h31 h32 h h0 hno hs
  · exact uses_7 K cs F J k d a b l f cond real size imm av args w hE hF h31 h32 h h0 hno hs
  · exact uses_71 K cs F J k d a b l f cond real size imm av args w hE hF h31 h32 h h0 hno hs
  · exact uses_135 K cs F J k d a b l f cond real size imm av args w hE hF h31 h32 h h0 hno hs
  · exact uses_259 K cs F J k d a b l f cond real size imm av args w hE hF h31 h32 h h0 hno hs
  · exact uses_262 K cs F J k d a b l f cond real size imm av args w hE hF h31 h32 h h0 hno hs
  · exact uses_8 K cs F J k d a b l f cond real size imm av args w hE hF h31 h32 h h0 hno hs
  · exact uses_78 K cs F J k d a b l f cond real size imm av args w hE hF h31 h32 h h0 hno hs
  · exact uses_2 K cs F J k d a b l f cond real size imm av args w hE hF h31 h32 h h0 hno hs
  · exact uses_17 K cs F J k d a b l f cond real size imm av args w hE hF h31 h32 h h0 hno hs
  · exact uses_0 K cs F J k d a b l f cond real size imm av args w hE hF h31 h32 h h0 hno hs
  · exact uses_49 K cs F J k d a b l f cond real size imm av args w hE hF h31 h32 h h0 hno hld hfa hl hs
  · exact uses_35 K cs F J k d a b l f cond real size imm av args w hE hF h31 h32 h h0 hno hld hfa hl hs
  · exact uses_48 K cs F J k d a b l f cond real size imm av args w hE hF h31 h32 h h0 hno hld hfa hl hs
  · exact uses_34 K cs F J k d a b l f cond real size imm av args w hE hF h31 h32 h h0 hno hld hfa hl hs
  · exact uses_33 K cs F J k d a b l f cond real size imm av args w hE hF h31 h32 h h0 hno hld hfa hl hs
end
end Go.Proofs.YtoidddfpekbliaaGreat
