/-
  word: an instruction made ready, kind by kind. Made by gen_wready.py.
-/
import Derived.Test.YtoidddfpekbliaaGreatWJ17
namespace Go.Proofs.YtoidddfpekbliaaGreat
set_option linter.unusedSimpArgs false
set_option linter.unusedVariables false
open Go.RowKit
attribute [local go_sem ↓] Go.wp_at_zero Go.wp_at_succ

theorem IM.look1 {κ : IntKind} {tk te tm : TypeId} {w : World} {b N : Nat} {f : Int → Option Nat} (h : IM κ tk w b N f) (hk : Tryz.prog.underlying tk = some (.int κ)) (ht : Tryz.prog.underlying tm = some (.map tk te)) (hz : (zeroValue te).run Tryz.prog w = .ok (.int .i64 0) w) (x : Int) (hx : (Lit.int κ x).wf = true) :
    (Instr.lookup tm (.map (some b)) (.int κ x) false).run Tryz.prog w = .ok (.int .i64 (((f x).getD 0 : Nat) : Int)) w := by
  have law := Maps.int_keyed (P := Tryz.prog) hk
  have hkey := Maps.keyOf_int_mk (P := Tryz.prog) hk hx
  obtain ⟨n, D, hn, hown, hf⟩ := h
  obtain ⟨v, ps, hr, hv⟩ := hown.lookup law ht hz (zd := .held (.int .i64 0)) (zp := []) rfl hkey
  simp only [rawE, Option.some.injEq, Prod.mk.injEq] at hv
  rw [hr]
  cases e : f x with
  | none =>
    have hno : Maps.has D (.int κ x) = false := by rw [(hf x hx).1, e]; rfl
    have := Maps.atKey_of_not_has hno (.held (.int .i64 0))
    rw [this] at hv
    cases hv.1; rfl
  | some y =>
    have := (hf x hx).2 y e
    rw [this] at hv
    cases hv.1; rfl

/-- an instruction that is ready, as a value -/
def rcVal (kind how count d to_ imm f0 f1 f2 f3 f4 : Int) : Value := .agg #[.int .u8 kind, .int .u8 how, .int .u8 count, .int .u32 d, .int .i32 to_, .int .u64 imm, .int .u32 f0, .int .u32 f1, .int .u32 f2, .int .u32 f3, .int .u32 f4]

section
variable (k d a b l f cond real size imm : Int) (va : Option Addr) (vn vc' : Nat) (mb : Nat) (pl : Option Addr) (pn pc : Nat) (w : World)

/-- what is known around the call of 'uses' -/
structure RU (k imm : Int) (A : Array Value) (w : World) (S : Gth) (w2 : World) : Prop where
  box : ∀ i, w2.cell? ⟨w.heap.size, i, none⟩ = A[i]?
  res : ∃ c, CB w2 (w.heap.size + 1) 11 c
  out : CB w2 (w.heap.size + 2) 11 (wcell k (IntKind.u64.wrap imm) S)
  size : w.heap.size + 3 ≤ w2.heap.size
  tn : Tn No w w2

theorem ru_of (S : Gth) (args : Array Value)
    (hg : ∀ u pb, Tn No w u → CB u pb 11 (wcell k (IntKind.u64.wrap imm) ⟨0, 0, fun _ => 0⟩) → w.heap.size ≤ pb → Calls Tryz.prog 140 #[.agg #[.int .i64 k, .int .i64 d, .int .i64 a, .int .i64 b, .int .i64 l, .int .i64 f, .int .i64 cond, .int .i64 real, .int .i64 size, .int .i64 imm, .slice va vn vc'], .func (.func 144) #[] #[.pointer (some ⟨pb, 0, none⟩)]] u fun e w' => e = .returned (.tuple #[]) ∧ CB w' pb 11 (wcell k (IntKind.u64.wrap imm) S) ∧ Tn (fun k => k = pb) u w') :
    Calls Tryz.prog 140 #[.agg #[.int .i64 k, .int .i64 d, .int .i64 a, .int .i64 b, .int .i64 l, .int .i64 f, .int .i64 cond, .int .i64 real, .int .i64 size, .int .i64 imm, .slice va vn vc'], .func (.func 144) #[] #[.pointer (some ⟨w.heap.size + 2, 0, none⟩)]] (((w.alloc (.cells #[.int .i64 k, .int .i64 d, .int .i64 a, .int .i64 b, .int .i64 l, .int .i64 f, .int .i64 cond, .int .i64 real, .int .i64 size, .int .i64 imm, .slice va vn vc'] 79)).alloc (.cells #[.int .u8 0, .int .u8 0, .int .u8 0, .int .u32 0, .int .i32 0, .int .u64 0, .int .u32 0, .int .u32 0, .int .u32 0, .int .u32 0, .int .u32 0] 180)).alloc (.cells #[.int .u8 k, .int .u8 0, .int .u8 0, .int .u32 0, .int .i32 0, .int .u64 (IntKind.u64.wrap imm), .int .u32 0, .int .u32 0, .int .u32 0, .int .u32 0, .int .u32 0] 180)) fun e w' => e = .returned (.tuple #[]) ∧ RU k imm #[.int .i64 k, .int .i64 d, .int .i64 a, .int .i64 b, .int .i64 l, .int .i64 f, .int .i64 cond, .int .i64 real, .int .i64 size, .int .i64 imm, .slice va vn vc'] w S w' := by
  obtain ⟨U, hU⟩ : ∃ U, ((w.alloc (.cells #[.int .i64 k, .int .i64 d, .int .i64 a, .int .i64 b, .int .i64 l, .int .i64 f, .int .i64 cond, .int .i64 real, .int .i64 size, .int .i64 imm, .slice va vn vc'] 79)).alloc (.cells #[.int .u8 0, .int .u8 0, .int .u8 0, .int .u32 0, .int .i32 0, .int .u64 0, .int .u32 0, .int .u32 0, .int .u32 0, .int .u32 0, .int .u32 0] 180)).alloc (.cells #[.int .u8 k, .int .u8 0, .int .u8 0, .int .u32 0, .int .i32 0, .int .u64 (IntKind.u64.wrap imm), .int .u32 0, .int .u32 0, .int .u32 0, .int .u32 0, .int .u32 0] 180) = U := ⟨_, rfl⟩
  have hB0 : ∀ i, U.cell? ⟨w.heap.size, i, none⟩ = #[.int .i64 k, .int .i64 d, .int .i64 a, .int .i64 b, .int .i64 l, .int .i64 f, .int .i64 cond, .int .i64 real, .int .i64 size, .int .i64 imm, .slice va vn vc'][i]? := fun i => by rw [← hU]; exact alloc3_first w _ _ _ _ i
  have hcb : CB U (w.heap.size + 2) 11 (wcell k (IntKind.u64.wrap imm) ⟨0, 0, fun _ => 0⟩) := by
    rw [← hU]
    have e : w.heap.size + 2 = ((w.alloc (.cells #[.int .i64 k, .int .i64 d, .int .i64 a, .int .i64 b, .int .i64 l, .int .i64 f, .int .i64 cond, .int .i64 real, .int .i64 size, .int .i64 imm, .slice va vn vc'] 79)).alloc (.cells #[.int .u8 0, .int .u8 0, .int .u8 0, .int .u32 0, .int .i32 0, .int .u64 0, .int .u32 0, .int .u32 0, .int .u32 0, .int .u32 0, .int .u32 0] 180)).heap.size := by simp
    rw [e]
    refine (CB.new _ _ _).congr (fun i hi => ?_)
    have : i = 0 ∨ i = 1 ∨ i = 2 ∨ i = 3 ∨ i = 4 ∨ i = 5 ∨ i = 6 ∨ i = 7 ∨ i = 8 ∨ i = 9 ∨ i = 10 := by simp at hi; omega
    rcases this with rfl | rfl | rfl | rfl | rfl | rfl | rfl | rfl | rfl | rfl | rfl <;> rfl
  have hcr : ∃ c, CB U (w.heap.size + 1) 11 c := by
    have h1 : CB ((w.alloc (.cells #[.int .i64 k, .int .i64 d, .int .i64 a, .int .i64 b, .int .i64 l, .int .i64 f, .int .i64 cond, .int .i64 real, .int .i64 size, .int .i64 imm, .slice va vn vc'] 79)).alloc (.cells #[.int .u8 0, .int .u8 0, .int .u8 0, .int .u32 0, .int .i32 0, .int .u64 0, .int .u32 0, .int .u32 0, .int .u32 0, .int .u32 0, .int .u32 0] 180)) (w.alloc (.cells #[.int .i64 k, .int .i64 d, .int .i64 a, .int .i64 b, .int .i64 l, .int .i64 f, .int .i64 cond, .int .i64 real, .int .i64 size, .int .i64 imm, .slice va vn vc'] 79)).heap.size 11 _ := CB.new _ _ _
    have e : w.heap.size + 1 = (w.alloc (.cells #[.int .i64 k, .int .i64 d, .int .i64 a, .int .i64 b, .int .i64 l, .int .i64 f, .int .i64 cond, .int .i64 real, .int .i64 size, .int .i64 imm, .slice va vn vc'] 79)).heap.size := by simp
    rw [← e] at h1
    rw [← hU]
    exact ⟨_, h1.kept (Below.heap_alloc _ _ _ (by simp))⟩
  have hsz : U.heap.size = w.heap.size + 3 := by rw [← hU]; simp
  have hTU : Tn No w U := by rw [← hU]; exact (((Tn.refl No w).alloc _).alloc _).alloc _
  rw [hU]
  refine (hg U (w.heap.size + 2) hTU hcb (by omega)).mono ?_
  rintro e u ⟨rfl, h2, t⟩
  obtain ⟨c, h⟩ := hcr
  exact ⟨rfl, fun i => by rw [t.cell (by omega) (by omega)]; exact hB0 i, ⟨c, h.kept (t.block _ (by omega) (by omega))⟩, h2, by have := t.size; omega, hTU.trans t (fun _ _ e => e) (fun i hi e => by omega)⟩

set_option maxHeartbeats 4000000 in
set_option maxRecDepth 100000 in
theorem rword_x (S : Gth) (n15 : k ≠ 15) (n16 : k ≠ 16) (n17 : k ≠ 17) (n18 : k ≠ 18) (n20 : k ≠ 20) (n21 : k ≠ 21) (n22 : k ≠ 22) (n24 : k ≠ 24) (n28 : k ≠ 28) (hk : 1 ≤ k) (hk2 : k ≤ 32)
    (hg : ∀ u pb, Tn No w u → CB u pb 11 (wcell k (IntKind.u64.wrap imm) ⟨0, 0, fun _ => 0⟩) → w.heap.size ≤ pb → Calls Tryz.prog 140 #[.agg #[.int .i64 k, .int .i64 d, .int .i64 a, .int .i64 b, .int .i64 l, .int .i64 f, .int .i64 cond, .int .i64 real, .int .i64 size, .int .i64 imm, .slice va vn vc'], .func (.func 144) #[] #[.pointer (some ⟨pb, 0, none⟩)]] u fun e w' => e = .returned (.tuple #[]) ∧ CB w' pb 11 (wcell k (IntKind.u64.wrap imm) S) ∧ Tn (fun k => k = pb) u w') :
    Calls Tryz.prog 115 #[.agg #[.int .i64 k, .int .i64 d, .int .i64 a, .int .i64 b, .int .i64 l, .int .i64 f, .int .i64 cond, .int .i64 real, .int .i64 size, .int .i64 imm, .slice va vn vc'], .map (some mb), .slice pl pn pc] w fun e w' => e = .returned (rcVal k (0) (S.c : Int) S.d (0) (IntKind.u64.wrap imm) (S.f 0) (S.f 1) (S.f 2) (S.f 3) (S.f 4)) ∧ Tn No w w' := by
  have n15 : (k == 15) = false := by simpa using n15
  have n16 : (k == 16) = false := by simpa using n16
  have n17 : (k == 17) = false := by simpa using n17
  have n18 : (k == 18) = false := by simpa using n18
  have n20 : (k == 20) = false := by simpa using n20
  have n21 : (k == 21) = false := by simpa using n21
  have n22 : (k == 22) = false := by simpa using n22
  have n24 : (k == 24) = false := by simpa using n24
  have n28 : (k == 28) = false := by simpa using n28
  have hw : IntKind.u8.wrap k = k := by simp [IntKind.wrap, IntKind.bits, IntKind.signed]; omega
  have HG := hid (ru_of k d a b l f cond real size imm va vn vc' w S #[] hg)
  clear hg
  obtain ⟨c, rd, s0, s1, s2, s3, s4, hc, hd, hs0, hs1, hs2, hs3, hs4⟩ : ∃ c rd s0 s1 s2 s3 s4, (S.c : Int) = c ∧ S.d = rd ∧ S.f 0 = s0 ∧ S.f 1 = s1 ∧ S.f 2 = s2 ∧ S.f 3 = s3 ∧ S.f 4 = s4 := ⟨_, _, _, _, _, _, _, rfl, rfl, rfl, rfl, rfl, rfl, rfl⟩
  rw [hc, hd, hs0, hs1, hs2, hs3, hs4]
  have hS : ∀ i, wcell k (IntKind.u64.wrap imm) S i = if i = 2 then .int .u8 c else if i = 3 then .int .u32 rd else if i = 6 then .int .u32 s0 else if i = 7 then .int .u32 s1 else if i = 8 then .int .u32 s2 else if i = 9 then .int .u32 s3 else if i = 10 then .int .u32 s4 else wcell k (IntKind.u64.wrap imm) ⟨0, 0, fun j => S.f j⟩ i := fun i => by
    unfold wcell
    by_cases h2 : i = 2
    · subst h2; simp [hc]
    by_cases h3 : i = 3
    · subst h3; simp [hd]
    by_cases h6 : i = 6
    · subst h6; simp [hs0]
    by_cases h7 : i = 7
    · subst h7; simp [hs1]
    by_cases h8 : i = 8
    · subst h8; simp [hs2]
    by_cases h9 : i = 9
    · subst h9; simp [hs3]
    by_cases h10 : i = 10
    · subst h10; simp [hs4]
    simp [h2, h3, h6, h7, h8, h9, h10]
  have HS := hid hS
  clear hS hc hd hs0 hs1 hs2 hs3 hs4
  have HUW : Hid (∀ w2, RU k imm #[.int .i64 k, .int .i64 d, .int .i64 a, .int .i64 b, .int .i64 l, .int .i64 f, .int .i64 cond, .int .i64 real, .int .i64 size, .int .i64 imm, .slice va vn vc'] w S w2 → ∀ i, i < 11 → w2.cell? ⟨w.heap.size + 2, i, none⟩ = some (if i = 2 then .int .u8 c else if i = 3 then .int .u32 rd else if i = 6 then .int .u32 s0 else if i = 7 then .int .u32 s1 else if i = 8 then .int .u32 s2 else if i = 9 then .int .u32 s3 else if i = 10 then .int .u32 s4 else wcell k (IntKind.u64.wrap imm) ⟨0, 0, fun j => S.f j⟩ i)) := hid (fun w2 h i hi => by rw [h.out.cell i hi, HS.out i])
  go_enter Tryz.func115, Tryz.ntmps115
  go_wp2_with (first
    | (go_at_call 140; refine HG.out.mono ?_; rintro e w2 ⟨rfl, hru⟩; have hcc := HUW.out w2 hru; obtain ⟨b0, ⟨cr, hr⟩, h2, z2, tw2⟩ := hru; have k0 := b0 0; have k4 := b0 4; have k5 := b0 5; have k6 := b0 6; have k7 := b0 7; have k8 := b0 8; have d0 := hcc 0 (by omega); have d1 := hcc 1 (by omega); have d2 := hcc 2 (by omega); have d3 := hcc 3 (by omega); have d4 := hcc 4 (by omega); have d5 := hcc 5 (by omega); have d6 := hcc 6 (by omega); have d7 := hcc 7 (by omega); have d8 := hcc 8 (by omega); have d9 := hcc 9 (by omega); have d10 := hcc 10 (by omega); have r0 := hr.cell 0 (by omega); have r1 := hr.cell 1 (by omega); have r2 := hr.cell 2 (by omega); have r3 := hr.cell 3 (by omega); have r4 := hr.cell 4 (by omega); have r5 := hr.cell 5 (by omega); have r6 := hr.cell 6 (by omega); have r7 := hr.cell 7 (by omega); have r8 := hr.cell 8 (by omega); have r9 := hr.cell 9 (by omega); have r10 := hr.cell 10 (by omega); have rf := hr.froz; have df := h2.froz; have HR := hid hr; have HT2 := hid tw2; simp [wcell] at d0 d1 d2 d3 d4 d5 d6 d7 d8 d9 d10; simp at k0 k4 k5 k6 k7 k8; clear hr h2 tw2 b0 hcc))
  refine put11_all (bodyPost _ _ _ _ _) HR.out ?_
  intro W hW tW
  have e0 := hW.cell 0 (by omega); have e1 := hW.cell 1 (by omega); have e2 := hW.cell 2 (by omega); have e3 := hW.cell 3 (by omega); have e4 := hW.cell 4 (by omega); have e5 := hW.cell 5 (by omega); have e6 := hW.cell 6 (by omega); have e7 := hW.cell 7 (by omega); have e8 := hW.cell 8 (by omega); have e9 := hW.cell 9 (by omega); have e10 := hW.cell 10 (by omega)
  simp [c11] at e0 e1 e2 e3 e4 e5 e6 e7 e8 e9 e10
  have HTW : Hid (Tn No w W) := hid (by
    have t1 : Tn (fun k => k = w.heap.size + 2 ∨ k = w.heap.size + 1) w2 W := (Tn.refl (fun k => k = w.heap.size + 2) w2).trans tW (fun _ _ e => .inl e) (fun _ _ e => .inr e)
    exact HT2.out.trans t1 (fun _ _ e => e) (fun i hi e => by omega))
  clear tW hW
  refine bodyPost_ret (v := rcVal k (0) c rd (0) (IntKind.u64.wrap imm) s0 s1 s2 s3 s4) (by simp [results, Tryz.results115, go_sem, rcVal, e0, e1, e2, e3, e4, e5, e6, e7, e8, e9, e10]) rfl ?_
  exact ⟨rfl, HTW.out⟩

set_option maxHeartbeats 4000000 in
set_option maxRecDepth 100000 in
theorem rword_15 (S : Gth) (hb : 0 ≤ cond) (hb2 : cond ≤ 255)
    (hg : ∀ u pb, Tn No w u → CB u pb 11 (wcell 15 (IntKind.u64.wrap imm) ⟨0, 0, fun _ => 0⟩) → w.heap.size ≤ pb → Calls Tryz.prog 140 #[.agg #[.int .i64 15, .int .i64 d, .int .i64 a, .int .i64 b, .int .i64 l, .int .i64 f, .int .i64 cond, .int .i64 real, .int .i64 size, .int .i64 imm, .slice va vn vc'], .func (.func 144) #[] #[.pointer (some ⟨pb, 0, none⟩)]] u fun e w' => e = .returned (.tuple #[]) ∧ CB w' pb 11 (wcell 15 (IntKind.u64.wrap imm) S) ∧ Tn (fun k => k = pb) u w') :
    Calls Tryz.prog 115 #[.agg #[.int .i64 15, .int .i64 d, .int .i64 a, .int .i64 b, .int .i64 l, .int .i64 f, .int .i64 cond, .int .i64 real, .int .i64 size, .int .i64 imm, .slice va vn vc'], .map (some mb), .slice pl pn pc] w fun e w' => e = .returned (rcVal 15 (cond) (S.c : Int) S.d (0) (IntKind.u64.wrap imm) (S.f 0) (S.f 1) (S.f 2) (S.f 3) (S.f 4)) ∧ Tn No w w' := by
  have hw : IntKind.u8.wrap cond = cond := by simp [IntKind.wrap, IntKind.bits, IntKind.signed]; omega
  have HG := hid (ru_of 15 d a b l f cond real size imm va vn vc' w S #[] hg)
  clear hg
  obtain ⟨c, rd, s0, s1, s2, s3, s4, hc, hd, hs0, hs1, hs2, hs3, hs4⟩ : ∃ c rd s0 s1 s2 s3 s4, (S.c : Int) = c ∧ S.d = rd ∧ S.f 0 = s0 ∧ S.f 1 = s1 ∧ S.f 2 = s2 ∧ S.f 3 = s3 ∧ S.f 4 = s4 := ⟨_, _, _, _, _, _, _, rfl, rfl, rfl, rfl, rfl, rfl, rfl⟩
  rw [hc, hd, hs0, hs1, hs2, hs3, hs4]
  have hS : ∀ i, wcell 15 (IntKind.u64.wrap imm) S i = if i = 2 then .int .u8 c else if i = 3 then .int .u32 rd else if i = 6 then .int .u32 s0 else if i = 7 then .int .u32 s1 else if i = 8 then .int .u32 s2 else if i = 9 then .int .u32 s3 else if i = 10 then .int .u32 s4 else wcell 15 (IntKind.u64.wrap imm) ⟨0, 0, fun j => S.f j⟩ i := fun i => by
    unfold wcell
    by_cases h2 : i = 2
    · subst h2; simp [hc]
    by_cases h3 : i = 3
    · subst h3; simp [hd]
    by_cases h6 : i = 6
    · subst h6; simp [hs0]
    by_cases h7 : i = 7
    · subst h7; simp [hs1]
    by_cases h8 : i = 8
    · subst h8; simp [hs2]
    by_cases h9 : i = 9
    · subst h9; simp [hs3]
    by_cases h10 : i = 10
    · subst h10; simp [hs4]
    simp [h2, h3, h6, h7, h8, h9, h10]
  have HS := hid hS
  clear hS hc hd hs0 hs1 hs2 hs3 hs4
  have HUW : Hid (∀ w2, RU 15 imm #[.int .i64 15, .int .i64 d, .int .i64 a, .int .i64 b, .int .i64 l, .int .i64 f, .int .i64 cond, .int .i64 real, .int .i64 size, .int .i64 imm, .slice va vn vc'] w S w2 → ∀ i, i < 11 → w2.cell? ⟨w.heap.size + 2, i, none⟩ = some (if i = 2 then .int .u8 c else if i = 3 then .int .u32 rd else if i = 6 then .int .u32 s0 else if i = 7 then .int .u32 s1 else if i = 8 then .int .u32 s2 else if i = 9 then .int .u32 s3 else if i = 10 then .int .u32 s4 else wcell 15 (IntKind.u64.wrap imm) ⟨0, 0, fun j => S.f j⟩ i)) := hid (fun w2 h i hi => by rw [h.out.cell i hi, HS.out i])
  go_enter Tryz.func115, Tryz.ntmps115
  go_wp2_with (first
    | (go_at_call 140; refine HG.out.mono ?_; rintro e w2 ⟨rfl, hru⟩; have hcc := HUW.out w2 hru; obtain ⟨b0, ⟨cr, hr⟩, h2, z2, tw2⟩ := hru; have k0 := b0 0; have k4 := b0 4; have k5 := b0 5; have k6 := b0 6; have k7 := b0 7; have k8 := b0 8; have d0 := hcc 0 (by omega); have d1 := hcc 1 (by omega); have d2 := hcc 2 (by omega); have d3 := hcc 3 (by omega); have d4 := hcc 4 (by omega); have d5 := hcc 5 (by omega); have d6 := hcc 6 (by omega); have d7 := hcc 7 (by omega); have d8 := hcc 8 (by omega); have d9 := hcc 9 (by omega); have d10 := hcc 10 (by omega); have r0 := hr.cell 0 (by omega); have r1 := hr.cell 1 (by omega); have r2 := hr.cell 2 (by omega); have r3 := hr.cell 3 (by omega); have r4 := hr.cell 4 (by omega); have r5 := hr.cell 5 (by omega); have r6 := hr.cell 6 (by omega); have r7 := hr.cell 7 (by omega); have r8 := hr.cell 8 (by omega); have r9 := hr.cell 9 (by omega); have r10 := hr.cell 10 (by omega); have rf := hr.froz; have df := h2.froz; have HR := hid hr; have HT2 := hid tw2; simp [wcell] at d0 d1 d2 d3 d4 d5 d6 d7 d8 d9 d10; simp at k0 k4 k5 k6 k7 k8; clear hr h2 tw2 b0 hcc))
  refine put11_all (bodyPost _ _ _ _ _) (HR.out.kept (Below.heap_setCell _ _ _ _ (by simp))) ?_
  intro W hW tW
  have e0 := hW.cell 0 (by omega); have e1 := hW.cell 1 (by omega); have e2 := hW.cell 2 (by omega); have e3 := hW.cell 3 (by omega); have e4 := hW.cell 4 (by omega); have e5 := hW.cell 5 (by omega); have e6 := hW.cell 6 (by omega); have e7 := hW.cell 7 (by omega); have e8 := hW.cell 8 (by omega); have e9 := hW.cell 9 (by omega); have e10 := hW.cell 10 (by omega)
  simp [c11] at e0 e1 e2 e3 e4 e5 e6 e7 e8 e9 e10
  have HTW : Hid (Tn No w W) := hid (by
    have t1 : Tn (fun k => k = w.heap.size + 2 ∨ k = w.heap.size + 1) w2 W := ((Tn.refl (fun k => k = w.heap.size + 2) w2).set _ _ (fun _ => rfl)).trans tW (fun _ _ e => .inl e) (fun _ _ e => .inr e)
    exact HT2.out.trans t1 (fun _ _ e => e) (fun i hi e => by omega))
  clear tW hW
  refine bodyPost_ret (v := rcVal 15 (cond) c rd (0) (IntKind.u64.wrap imm) s0 s1 s2 s3 s4) (by simp [results, Tryz.results115, go_sem, rcVal, e0, e1, e2, e3, e4, e5, e6, e7, e8, e9, e10]) rfl ?_
  exact ⟨rfl, HTW.out⟩

set_option maxHeartbeats 4000000 in
set_option maxRecDepth 100000 in
theorem rword_16 (S : Gth) (hb : 0 ≤ real) (hb2 : real ≤ 255)
    (hg : ∀ u pb, Tn No w u → CB u pb 11 (wcell 16 (IntKind.u64.wrap imm) ⟨0, 0, fun _ => 0⟩) → w.heap.size ≤ pb → Calls Tryz.prog 140 #[.agg #[.int .i64 16, .int .i64 d, .int .i64 a, .int .i64 b, .int .i64 l, .int .i64 f, .int .i64 cond, .int .i64 real, .int .i64 size, .int .i64 imm, .slice va vn vc'], .func (.func 144) #[] #[.pointer (some ⟨pb, 0, none⟩)]] u fun e w' => e = .returned (.tuple #[]) ∧ CB w' pb 11 (wcell 16 (IntKind.u64.wrap imm) S) ∧ Tn (fun k => k = pb) u w') :
    Calls Tryz.prog 115 #[.agg #[.int .i64 16, .int .i64 d, .int .i64 a, .int .i64 b, .int .i64 l, .int .i64 f, .int .i64 cond, .int .i64 real, .int .i64 size, .int .i64 imm, .slice va vn vc'], .map (some mb), .slice pl pn pc] w fun e w' => e = .returned (rcVal 16 (real) (S.c : Int) S.d (0) (IntKind.u64.wrap imm) (S.f 0) (S.f 1) (S.f 2) (S.f 3) (S.f 4)) ∧ Tn No w w' := by
  have hw : IntKind.u8.wrap real = real := by simp [IntKind.wrap, IntKind.bits, IntKind.signed]; omega
  have HG := hid (ru_of 16 d a b l f cond real size imm va vn vc' w S #[] hg)
  clear hg
  obtain ⟨c, rd, s0, s1, s2, s3, s4, hc, hd, hs0, hs1, hs2, hs3, hs4⟩ : ∃ c rd s0 s1 s2 s3 s4, (S.c : Int) = c ∧ S.d = rd ∧ S.f 0 = s0 ∧ S.f 1 = s1 ∧ S.f 2 = s2 ∧ S.f 3 = s3 ∧ S.f 4 = s4 := ⟨_, _, _, _, _, _, _, rfl, rfl, rfl, rfl, rfl, rfl, rfl⟩
  rw [hc, hd, hs0, hs1, hs2, hs3, hs4]
  have hS : ∀ i, wcell 16 (IntKind.u64.wrap imm) S i = if i = 2 then .int .u8 c else if i = 3 then .int .u32 rd else if i = 6 then .int .u32 s0 else if i = 7 then .int .u32 s1 else if i = 8 then .int .u32 s2 else if i = 9 then .int .u32 s3 else if i = 10 then .int .u32 s4 else wcell 16 (IntKind.u64.wrap imm) ⟨0, 0, fun j => S.f j⟩ i := fun i => by
    unfold wcell
    by_cases h2 : i = 2
    · subst h2; simp [hc]
    by_cases h3 : i = 3
    · subst h3; simp [hd]
    by_cases h6 : i = 6
    · subst h6; simp [hs0]
    by_cases h7 : i = 7
    · subst h7; simp [hs1]
    by_cases h8 : i = 8
    · subst h8; simp [hs2]
    by_cases h9 : i = 9
    · subst h9; simp [hs3]
    by_cases h10 : i = 10
    · subst h10; simp [hs4]
    simp [h2, h3, h6, h7, h8, h9, h10]
  have HS := hid hS
  clear hS hc hd hs0 hs1 hs2 hs3 hs4
  have HUW : Hid (∀ w2, RU 16 imm #[.int .i64 16, .int .i64 d, .int .i64 a, .int .i64 b, .int .i64 l, .int .i64 f, .int .i64 cond, .int .i64 real, .int .i64 size, .int .i64 imm, .slice va vn vc'] w S w2 → ∀ i, i < 11 → w2.cell? ⟨w.heap.size + 2, i, none⟩ = some (if i = 2 then .int .u8 c else if i = 3 then .int .u32 rd else if i = 6 then .int .u32 s0 else if i = 7 then .int .u32 s1 else if i = 8 then .int .u32 s2 else if i = 9 then .int .u32 s3 else if i = 10 then .int .u32 s4 else wcell 16 (IntKind.u64.wrap imm) ⟨0, 0, fun j => S.f j⟩ i)) := hid (fun w2 h i hi => by rw [h.out.cell i hi, HS.out i])
  go_enter Tryz.func115, Tryz.ntmps115
  go_wp2_with (first
    | (go_at_call 140; refine HG.out.mono ?_; rintro e w2 ⟨rfl, hru⟩; have hcc := HUW.out w2 hru; obtain ⟨b0, ⟨cr, hr⟩, h2, z2, tw2⟩ := hru; have k0 := b0 0; have k4 := b0 4; have k5 := b0 5; have k6 := b0 6; have k7 := b0 7; have k8 := b0 8; have d0 := hcc 0 (by omega); have d1 := hcc 1 (by omega); have d2 := hcc 2 (by omega); have d3 := hcc 3 (by omega); have d4 := hcc 4 (by omega); have d5 := hcc 5 (by omega); have d6 := hcc 6 (by omega); have d7 := hcc 7 (by omega); have d8 := hcc 8 (by omega); have d9 := hcc 9 (by omega); have d10 := hcc 10 (by omega); have r0 := hr.cell 0 (by omega); have r1 := hr.cell 1 (by omega); have r2 := hr.cell 2 (by omega); have r3 := hr.cell 3 (by omega); have r4 := hr.cell 4 (by omega); have r5 := hr.cell 5 (by omega); have r6 := hr.cell 6 (by omega); have r7 := hr.cell 7 (by omega); have r8 := hr.cell 8 (by omega); have r9 := hr.cell 9 (by omega); have r10 := hr.cell 10 (by omega); have rf := hr.froz; have df := h2.froz; have HR := hid hr; have HT2 := hid tw2; simp [wcell] at d0 d1 d2 d3 d4 d5 d6 d7 d8 d9 d10; simp at k0 k4 k5 k6 k7 k8; clear hr h2 tw2 b0 hcc))
  refine put11_all (bodyPost _ _ _ _ _) (HR.out.kept (Below.heap_setCell _ _ _ _ (by simp))) ?_
  intro W hW tW
  have e0 := hW.cell 0 (by omega); have e1 := hW.cell 1 (by omega); have e2 := hW.cell 2 (by omega); have e3 := hW.cell 3 (by omega); have e4 := hW.cell 4 (by omega); have e5 := hW.cell 5 (by omega); have e6 := hW.cell 6 (by omega); have e7 := hW.cell 7 (by omega); have e8 := hW.cell 8 (by omega); have e9 := hW.cell 9 (by omega); have e10 := hW.cell 10 (by omega)
  simp [c11] at e0 e1 e2 e3 e4 e5 e6 e7 e8 e9 e10
  have HTW : Hid (Tn No w W) := hid (by
    have t1 : Tn (fun k => k = w.heap.size + 2 ∨ k = w.heap.size + 1) w2 W := ((Tn.refl (fun k => k = w.heap.size + 2) w2).set _ _ (fun _ => rfl)).trans tW (fun _ _ e => .inl e) (fun _ _ e => .inr e)
    exact HT2.out.trans t1 (fun _ _ e => e) (fun i hi e => by omega))
  clear tW hW
  refine bodyPost_ret (v := rcVal 16 (real) c rd (0) (IntKind.u64.wrap imm) s0 s1 s2 s3 s4) (by simp [results, Tryz.results115, go_sem, rcVal, e0, e1, e2, e3, e4, e5, e6, e7, e8, e9, e10]) rfl ?_
  exact ⟨rfl, HTW.out⟩

set_option maxHeartbeats 4000000 in
set_option maxRecDepth 100000 in
theorem rword_17 (S : Gth) (hb : 0 ≤ size) (hb2 : size ≤ 255)
    (hg : ∀ u pb, Tn No w u → CB u pb 11 (wcell 17 (IntKind.u64.wrap imm) ⟨0, 0, fun _ => 0⟩) → w.heap.size ≤ pb → Calls Tryz.prog 140 #[.agg #[.int .i64 17, .int .i64 d, .int .i64 a, .int .i64 b, .int .i64 l, .int .i64 f, .int .i64 cond, .int .i64 real, .int .i64 size, .int .i64 imm, .slice va vn vc'], .func (.func 144) #[] #[.pointer (some ⟨pb, 0, none⟩)]] u fun e w' => e = .returned (.tuple #[]) ∧ CB w' pb 11 (wcell 17 (IntKind.u64.wrap imm) S) ∧ Tn (fun k => k = pb) u w') :
    Calls Tryz.prog 115 #[.agg #[.int .i64 17, .int .i64 d, .int .i64 a, .int .i64 b, .int .i64 l, .int .i64 f, .int .i64 cond, .int .i64 real, .int .i64 size, .int .i64 imm, .slice va vn vc'], .map (some mb), .slice pl pn pc] w fun e w' => e = .returned (rcVal 17 (size) (S.c : Int) S.d (0) (IntKind.u64.wrap imm) (S.f 0) (S.f 1) (S.f 2) (S.f 3) (S.f 4)) ∧ Tn No w w' := by
  have hw : IntKind.u8.wrap size = size := by simp [IntKind.wrap, IntKind.bits, IntKind.signed]; omega
  have HG := hid (ru_of 17 d a b l f cond real size imm va vn vc' w S #[] hg)
  clear hg
  obtain ⟨c, rd, s0, s1, s2, s3, s4, hc, hd, hs0, hs1, hs2, hs3, hs4⟩ : ∃ c rd s0 s1 s2 s3 s4, (S.c : Int) = c ∧ S.d = rd ∧ S.f 0 = s0 ∧ S.f 1 = s1 ∧ S.f 2 = s2 ∧ S.f 3 = s3 ∧ S.f 4 = s4 := ⟨_, _, _, _, _, _, _, rfl, rfl, rfl, rfl, rfl, rfl, rfl⟩
  rw [hc, hd, hs0, hs1, hs2, hs3, hs4]
  have hS : ∀ i, wcell 17 (IntKind.u64.wrap imm) S i = if i = 2 then .int .u8 c else if i = 3 then .int .u32 rd else if i = 6 then .int .u32 s0 else if i = 7 then .int .u32 s1 else if i = 8 then .int .u32 s2 else if i = 9 then .int .u32 s3 else if i = 10 then .int .u32 s4 else wcell 17 (IntKind.u64.wrap imm) ⟨0, 0, fun j => S.f j⟩ i := fun i => by
    unfold wcell
    by_cases h2 : i = 2
    · subst h2; simp [hc]
    by_cases h3 : i = 3
    · subst h3; simp [hd]
    by_cases h6 : i = 6
    · subst h6; simp [hs0]
    by_cases h7 : i = 7
    · subst h7; simp [hs1]
    by_cases h8 : i = 8
    · subst h8; simp [hs2]
    by_cases h9 : i = 9
    · subst h9; simp [hs3]
    by_cases h10 : i = 10
    · subst h10; simp [hs4]
    simp [h2, h3, h6, h7, h8, h9, h10]
  have HS := hid hS
  clear hS hc hd hs0 hs1 hs2 hs3 hs4
  have HUW : Hid (∀ w2, RU 17 imm #[.int .i64 17, .int .i64 d, .int .i64 a, .int .i64 b, .int .i64 l, .int .i64 f, .int .i64 cond, .int .i64 real, .int .i64 size, .int .i64 imm, .slice va vn vc'] w S w2 → ∀ i, i < 11 → w2.cell? ⟨w.heap.size + 2, i, none⟩ = some (if i = 2 then .int .u8 c else if i = 3 then .int .u32 rd else if i = 6 then .int .u32 s0 else if i = 7 then .int .u32 s1 else if i = 8 then .int .u32 s2 else if i = 9 then .int .u32 s3 else if i = 10 then .int .u32 s4 else wcell 17 (IntKind.u64.wrap imm) ⟨0, 0, fun j => S.f j⟩ i)) := hid (fun w2 h i hi => by rw [h.out.cell i hi, HS.out i])
  go_enter Tryz.func115, Tryz.ntmps115
  go_wp2_with (first
    | (go_at_call 140; refine HG.out.mono ?_; rintro e w2 ⟨rfl, hru⟩; have hcc := HUW.out w2 hru; obtain ⟨b0, ⟨cr, hr⟩, h2, z2, tw2⟩ := hru; have k0 := b0 0; have k4 := b0 4; have k5 := b0 5; have k6 := b0 6; have k7 := b0 7; have k8 := b0 8; have d0 := hcc 0 (by omega); have d1 := hcc 1 (by omega); have d2 := hcc 2 (by omega); have d3 := hcc 3 (by omega); have d4 := hcc 4 (by omega); have d5 := hcc 5 (by omega); have d6 := hcc 6 (by omega); have d7 := hcc 7 (by omega); have d8 := hcc 8 (by omega); have d9 := hcc 9 (by omega); have d10 := hcc 10 (by omega); have r0 := hr.cell 0 (by omega); have r1 := hr.cell 1 (by omega); have r2 := hr.cell 2 (by omega); have r3 := hr.cell 3 (by omega); have r4 := hr.cell 4 (by omega); have r5 := hr.cell 5 (by omega); have r6 := hr.cell 6 (by omega); have r7 := hr.cell 7 (by omega); have r8 := hr.cell 8 (by omega); have r9 := hr.cell 9 (by omega); have r10 := hr.cell 10 (by omega); have rf := hr.froz; have df := h2.froz; have HR := hid hr; have HT2 := hid tw2; simp [wcell] at d0 d1 d2 d3 d4 d5 d6 d7 d8 d9 d10; simp at k0 k4 k5 k6 k7 k8; clear hr h2 tw2 b0 hcc))
  refine put11_all (bodyPost _ _ _ _ _) (HR.out.kept (Below.heap_setCell _ _ _ _ (by simp))) ?_
  intro W hW tW
  have e0 := hW.cell 0 (by omega); have e1 := hW.cell 1 (by omega); have e2 := hW.cell 2 (by omega); have e3 := hW.cell 3 (by omega); have e4 := hW.cell 4 (by omega); have e5 := hW.cell 5 (by omega); have e6 := hW.cell 6 (by omega); have e7 := hW.cell 7 (by omega); have e8 := hW.cell 8 (by omega); have e9 := hW.cell 9 (by omega); have e10 := hW.cell 10 (by omega)
  simp [c11] at e0 e1 e2 e3 e4 e5 e6 e7 e8 e9 e10
  have HTW : Hid (Tn No w W) := hid (by
    have t1 : Tn (fun k => k = w.heap.size + 2 ∨ k = w.heap.size + 1) w2 W := ((Tn.refl (fun k => k = w.heap.size + 2) w2).set _ _ (fun _ => rfl)).trans tW (fun _ _ e => .inl e) (fun _ _ e => .inr e)
    exact HT2.out.trans t1 (fun _ _ e => e) (fun i hi e => by omega))
  clear tW hW
  refine bodyPost_ret (v := rcVal 17 (size) c rd (0) (IntKind.u64.wrap imm) s0 s1 s2 s3 s4) (by simp [results, Tryz.results115, go_sem, rcVal, e0, e1, e2, e3, e4, e5, e6, e7, e8, e9, e10]) rfl ?_
  exact ⟨rfl, HTW.out⟩

set_option maxHeartbeats 4000000 in
set_option maxRecDepth 100000 in
theorem rword_18 (S : Gth) (hb : 0 ≤ size) (hb2 : size ≤ 255)
    (hg : ∀ u pb, Tn No w u → CB u pb 11 (wcell 18 (IntKind.u64.wrap imm) ⟨0, 0, fun _ => 0⟩) → w.heap.size ≤ pb → Calls Tryz.prog 140 #[.agg #[.int .i64 18, .int .i64 d, .int .i64 a, .int .i64 b, .int .i64 l, .int .i64 f, .int .i64 cond, .int .i64 real, .int .i64 size, .int .i64 imm, .slice va vn vc'], .func (.func 144) #[] #[.pointer (some ⟨pb, 0, none⟩)]] u fun e w' => e = .returned (.tuple #[]) ∧ CB w' pb 11 (wcell 18 (IntKind.u64.wrap imm) S) ∧ Tn (fun k => k = pb) u w') :
    Calls Tryz.prog 115 #[.agg #[.int .i64 18, .int .i64 d, .int .i64 a, .int .i64 b, .int .i64 l, .int .i64 f, .int .i64 cond, .int .i64 real, .int .i64 size, .int .i64 imm, .slice va vn vc'], .map (some mb), .slice pl pn pc] w fun e w' => e = .returned (rcVal 18 (size) (S.c : Int) S.d (0) (IntKind.u64.wrap imm) (S.f 0) (S.f 1) (S.f 2) (S.f 3) (S.f 4)) ∧ Tn No w w' := by
  have hw : IntKind.u8.wrap size = size := by simp [IntKind.wrap, IntKind.bits, IntKind.signed]; omega
  have HG := hid (ru_of 18 d a b l f cond real size imm va vn vc' w S #[] hg)
  clear hg
  obtain ⟨c, rd, s0, s1, s2, s3, s4, hc, hd, hs0, hs1, hs2, hs3, hs4⟩ : ∃ c rd s0 s1 s2 s3 s4, (S.c : Int) = c ∧ S.d = rd ∧ S.f 0 = s0 ∧ S.f 1 = s1 ∧ S.f 2 = s2 ∧ S.f 3 = s3 ∧ S.f 4 = s4 := ⟨_, _, _, _, _, _, _, rfl, rfl, rfl, rfl, rfl, rfl, rfl⟩
  rw [hc, hd, hs0, hs1, hs2, hs3, hs4]
  have hS : ∀ i, wcell 18 (IntKind.u64.wrap imm) S i = if i = 2 then .int .u8 c else if i = 3 then .int .u32 rd else if i = 6 then .int .u32 s0 else if i = 7 then .int .u32 s1 else if i = 8 then .int .u32 s2 else if i = 9 then .int .u32 s3 else if i = 10 then .int .u32 s4 else wcell 18 (IntKind.u64.wrap imm) ⟨0, 0, fun j => S.f j⟩ i := fun i => by
    unfold wcell
    by_cases h2 : i = 2
    · subst h2; simp [hc]
    by_cases h3 : i = 3
    · subst h3; simp [hd]
    by_cases h6 : i = 6
    · subst h6; simp [hs0]
    by_cases h7 : i = 7
    · subst h7; simp [hs1]
    by_cases h8 : i = 8
    · subst h8; simp [hs2]
    by_cases h9 : i = 9
    · subst h9; simp [hs3]
    by_cases h10 : i = 10
    · subst h10; simp [hs4]
    simp [h2, h3, h6, h7, h8, h9, h10]
  have HS := hid hS
  clear hS hc hd hs0 hs1 hs2 hs3 hs4
  have HUW : Hid (∀ w2, RU 18 imm #[.int .i64 18, .int .i64 d, .int .i64 a, .int .i64 b, .int .i64 l, .int .i64 f, .int .i64 cond, .int .i64 real, .int .i64 size, .int .i64 imm, .slice va vn vc'] w S w2 → ∀ i, i < 11 → w2.cell? ⟨w.heap.size + 2, i, none⟩ = some (if i = 2 then .int .u8 c else if i = 3 then .int .u32 rd else if i = 6 then .int .u32 s0 else if i = 7 then .int .u32 s1 else if i = 8 then .int .u32 s2 else if i = 9 then .int .u32 s3 else if i = 10 then .int .u32 s4 else wcell 18 (IntKind.u64.wrap imm) ⟨0, 0, fun j => S.f j⟩ i)) := hid (fun w2 h i hi => by rw [h.out.cell i hi, HS.out i])
  go_enter Tryz.func115, Tryz.ntmps115
  go_wp2_with (first
    | (go_at_call 140; refine HG.out.mono ?_; rintro e w2 ⟨rfl, hru⟩; have hcc := HUW.out w2 hru; obtain ⟨b0, ⟨cr, hr⟩, h2, z2, tw2⟩ := hru; have k0 := b0 0; have k4 := b0 4; have k5 := b0 5; have k6 := b0 6; have k7 := b0 7; have k8 := b0 8; have d0 := hcc 0 (by omega); have d1 := hcc 1 (by omega); have d2 := hcc 2 (by omega); have d3 := hcc 3 (by omega); have d4 := hcc 4 (by omega); have d5 := hcc 5 (by omega); have d6 := hcc 6 (by omega); have d7 := hcc 7 (by omega); have d8 := hcc 8 (by omega); have d9 := hcc 9 (by omega); have d10 := hcc 10 (by omega); have r0 := hr.cell 0 (by omega); have r1 := hr.cell 1 (by omega); have r2 := hr.cell 2 (by omega); have r3 := hr.cell 3 (by omega); have r4 := hr.cell 4 (by omega); have r5 := hr.cell 5 (by omega); have r6 := hr.cell 6 (by omega); have r7 := hr.cell 7 (by omega); have r8 := hr.cell 8 (by omega); have r9 := hr.cell 9 (by omega); have r10 := hr.cell 10 (by omega); have rf := hr.froz; have df := h2.froz; have HR := hid hr; have HT2 := hid tw2; simp [wcell] at d0 d1 d2 d3 d4 d5 d6 d7 d8 d9 d10; simp at k0 k4 k5 k6 k7 k8; clear hr h2 tw2 b0 hcc))
  refine put11_all (bodyPost _ _ _ _ _) (HR.out.kept (Below.heap_setCell _ _ _ _ (by simp))) ?_
  intro W hW tW
  have e0 := hW.cell 0 (by omega); have e1 := hW.cell 1 (by omega); have e2 := hW.cell 2 (by omega); have e3 := hW.cell 3 (by omega); have e4 := hW.cell 4 (by omega); have e5 := hW.cell 5 (by omega); have e6 := hW.cell 6 (by omega); have e7 := hW.cell 7 (by omega); have e8 := hW.cell 8 (by omega); have e9 := hW.cell 9 (by omega); have e10 := hW.cell 10 (by omega)
  simp [c11] at e0 e1 e2 e3 e4 e5 e6 e7 e8 e9 e10
  have HTW : Hid (Tn No w W) := hid (by
    have t1 : Tn (fun k => k = w.heap.size + 2 ∨ k = w.heap.size + 1) w2 W := ((Tn.refl (fun k => k = w.heap.size + 2) w2).set _ _ (fun _ => rfl)).trans tW (fun _ _ e => .inl e) (fun _ _ e => .inr e)
    exact HT2.out.trans t1 (fun _ _ e => e) (fun i hi e => by omega))
  clear tW hW
  refine bodyPost_ret (v := rcVal 18 (size) c rd (0) (IntKind.u64.wrap imm) s0 s1 s2 s3 s4) (by simp [results, Tryz.results115, go_sem, rcVal, e0, e1, e2, e3, e4, e5, e6, e7, e8, e9, e10]) rfl ?_
  exact ⟨rfl, HTW.out⟩

set_option maxHeartbeats 4000000 in
set_option maxRecDepth 100000 in
theorem rword_22 (S : Gth) (hb : 0 ≤ f) (hb2 : f ≤ 1073741824)
    (hg : ∀ u pb, Tn No w u → CB u pb 11 (wcell 22 (IntKind.u64.wrap imm) ⟨0, 0, fun _ => 0⟩) → w.heap.size ≤ pb → Calls Tryz.prog 140 #[.agg #[.int .i64 22, .int .i64 d, .int .i64 a, .int .i64 b, .int .i64 l, .int .i64 f, .int .i64 cond, .int .i64 real, .int .i64 size, .int .i64 imm, .slice va vn vc'], .func (.func 144) #[] #[.pointer (some ⟨pb, 0, none⟩)]] u fun e w' => e = .returned (.tuple #[]) ∧ CB w' pb 11 (wcell 22 (IntKind.u64.wrap imm) S) ∧ Tn (fun k => k = pb) u w') :
    Calls Tryz.prog 115 #[.agg #[.int .i64 22, .int .i64 d, .int .i64 a, .int .i64 b, .int .i64 l, .int .i64 f, .int .i64 cond, .int .i64 real, .int .i64 size, .int .i64 imm, .slice va vn vc'], .map (some mb), .slice pl pn pc] w fun e w' => e = .returned (rcVal 22 (0) (S.c : Int) S.d (f) (IntKind.u64.wrap imm) (S.f 0) (S.f 1) (S.f 2) (S.f 3) (S.f 4)) ∧ Tn No w w' := by
  have hw : IntKind.i32.wrap f = f := by simp [IntKind.wrap, IntKind.bits, IntKind.signed]; omega
  have HG := hid (ru_of 22 d a b l f cond real size imm va vn vc' w S #[] hg)
  clear hg
  obtain ⟨c, rd, s0, s1, s2, s3, s4, hc, hd, hs0, hs1, hs2, hs3, hs4⟩ : ∃ c rd s0 s1 s2 s3 s4, (S.c : Int) = c ∧ S.d = rd ∧ S.f 0 = s0 ∧ S.f 1 = s1 ∧ S.f 2 = s2 ∧ S.f 3 = s3 ∧ S.f 4 = s4 := ⟨_, _, _, _, _, _, _, rfl, rfl, rfl, rfl, rfl, rfl, rfl⟩
  rw [hc, hd, hs0, hs1, hs2, hs3, hs4]
  have hS : ∀ i, wcell 22 (IntKind.u64.wrap imm) S i = if i = 2 then .int .u8 c else if i = 3 then .int .u32 rd else if i = 6 then .int .u32 s0 else if i = 7 then .int .u32 s1 else if i = 8 then .int .u32 s2 else if i = 9 then .int .u32 s3 else if i = 10 then .int .u32 s4 else wcell 22 (IntKind.u64.wrap imm) ⟨0, 0, fun j => S.f j⟩ i := fun i => by
    unfold wcell
    by_cases h2 : i = 2
    · subst h2; simp [hc]
    by_cases h3 : i = 3
    · subst h3; simp [hd]
    by_cases h6 : i = 6
    · subst h6; simp [hs0]
    by_cases h7 : i = 7
    · subst h7; simp [hs1]
    by_cases h8 : i = 8
    · subst h8; simp [hs2]
    by_cases h9 : i = 9
    · subst h9; simp [hs3]
    by_cases h10 : i = 10
    · subst h10; simp [hs4]
    simp [h2, h3, h6, h7, h8, h9, h10]
  have HS := hid hS
  clear hS hc hd hs0 hs1 hs2 hs3 hs4
  have HUW : Hid (∀ w2, RU 22 imm #[.int .i64 22, .int .i64 d, .int .i64 a, .int .i64 b, .int .i64 l, .int .i64 f, .int .i64 cond, .int .i64 real, .int .i64 size, .int .i64 imm, .slice va vn vc'] w S w2 → ∀ i, i < 11 → w2.cell? ⟨w.heap.size + 2, i, none⟩ = some (if i = 2 then .int .u8 c else if i = 3 then .int .u32 rd else if i = 6 then .int .u32 s0 else if i = 7 then .int .u32 s1 else if i = 8 then .int .u32 s2 else if i = 9 then .int .u32 s3 else if i = 10 then .int .u32 s4 else wcell 22 (IntKind.u64.wrap imm) ⟨0, 0, fun j => S.f j⟩ i)) := hid (fun w2 h i hi => by rw [h.out.cell i hi, HS.out i])
  go_enter Tryz.func115, Tryz.ntmps115
  go_wp2_with (first
    | (go_at_call 140; refine HG.out.mono ?_; rintro e w2 ⟨rfl, hru⟩; have hcc := HUW.out w2 hru; obtain ⟨b0, ⟨cr, hr⟩, h2, z2, tw2⟩ := hru; have k0 := b0 0; have k4 := b0 4; have k5 := b0 5; have k6 := b0 6; have k7 := b0 7; have k8 := b0 8; have d0 := hcc 0 (by omega); have d1 := hcc 1 (by omega); have d2 := hcc 2 (by omega); have d3 := hcc 3 (by omega); have d4 := hcc 4 (by omega); have d5 := hcc 5 (by omega); have d6 := hcc 6 (by omega); have d7 := hcc 7 (by omega); have d8 := hcc 8 (by omega); have d9 := hcc 9 (by omega); have d10 := hcc 10 (by omega); have r0 := hr.cell 0 (by omega); have r1 := hr.cell 1 (by omega); have r2 := hr.cell 2 (by omega); have r3 := hr.cell 3 (by omega); have r4 := hr.cell 4 (by omega); have r5 := hr.cell 5 (by omega); have r6 := hr.cell 6 (by omega); have r7 := hr.cell 7 (by omega); have r8 := hr.cell 8 (by omega); have r9 := hr.cell 9 (by omega); have r10 := hr.cell 10 (by omega); have rf := hr.froz; have df := h2.froz; have HR := hid hr; have HT2 := hid tw2; simp [wcell] at d0 d1 d2 d3 d4 d5 d6 d7 d8 d9 d10; simp at k0 k4 k5 k6 k7 k8; clear hr h2 tw2 b0 hcc))
  refine put11_all (bodyPost _ _ _ _ _) (HR.out.kept (Below.heap_setCell _ _ _ _ (by simp))) ?_
  intro W hW tW
  have e0 := hW.cell 0 (by omega); have e1 := hW.cell 1 (by omega); have e2 := hW.cell 2 (by omega); have e3 := hW.cell 3 (by omega); have e4 := hW.cell 4 (by omega); have e5 := hW.cell 5 (by omega); have e6 := hW.cell 6 (by omega); have e7 := hW.cell 7 (by omega); have e8 := hW.cell 8 (by omega); have e9 := hW.cell 9 (by omega); have e10 := hW.cell 10 (by omega)
  simp [c11] at e0 e1 e2 e3 e4 e5 e6 e7 e8 e9 e10
  have HTW : Hid (Tn No w W) := hid (by
    have t1 : Tn (fun k => k = w.heap.size + 2 ∨ k = w.heap.size + 1) w2 W := ((Tn.refl (fun k => k = w.heap.size + 2) w2).set _ _ (fun _ => rfl)).trans tW (fun _ _ e => .inl e) (fun _ _ e => .inr e)
    exact HT2.out.trans t1 (fun _ _ e => e) (fun i hi e => by omega))
  clear tW hW
  refine bodyPost_ret (v := rcVal 22 (0) c rd (f) (IntKind.u64.wrap imm) s0 s1 s2 s3 s4) (by simp [results, Tryz.results115, go_sem, rcVal, e0, e1, e2, e3, e4, e5, e6, e7, e8, e9, e10]) rfl ?_
  exact ⟨rfl, HTW.out⟩

set_option maxHeartbeats 4000000 in
set_option maxRecDepth 100000 in
theorem rword_24 (S : Gth) (hb : 0 ≤ f) (hb2 : f ≤ 1073741824)
    (hg : ∀ u pb, Tn No w u → CB u pb 11 (wcell 24 (IntKind.u64.wrap imm) ⟨0, 0, fun _ => 0⟩) → w.heap.size ≤ pb → Calls Tryz.prog 140 #[.agg #[.int .i64 24, .int .i64 d, .int .i64 a, .int .i64 b, .int .i64 l, .int .i64 f, .int .i64 cond, .int .i64 real, .int .i64 size, .int .i64 imm, .slice va vn vc'], .func (.func 144) #[] #[.pointer (some ⟨pb, 0, none⟩)]] u fun e w' => e = .returned (.tuple #[]) ∧ CB w' pb 11 (wcell 24 (IntKind.u64.wrap imm) S) ∧ Tn (fun k => k = pb) u w') :
    Calls Tryz.prog 115 #[.agg #[.int .i64 24, .int .i64 d, .int .i64 a, .int .i64 b, .int .i64 l, .int .i64 f, .int .i64 cond, .int .i64 real, .int .i64 size, .int .i64 imm, .slice va vn vc'], .map (some mb), .slice pl pn pc] w fun e w' => e = .returned (rcVal 24 (0) (S.c : Int) S.d (f) (IntKind.u64.wrap imm) (S.f 0) (S.f 1) (S.f 2) (S.f 3) (S.f 4)) ∧ Tn No w w' := by
  have hw : IntKind.i32.wrap f = f := by simp [IntKind.wrap, IntKind.bits, IntKind.signed]; omega
  have HG := hid (ru_of 24 d a b l f cond real size imm va vn vc' w S #[] hg)
  clear hg
  obtain ⟨c, rd, s0, s1, s2, s3, s4, hc, hd, hs0, hs1, hs2, hs3, hs4⟩ : ∃ c rd s0 s1 s2 s3 s4, (S.c : Int) = c ∧ S.d = rd ∧ S.f 0 = s0 ∧ S.f 1 = s1 ∧ S.f 2 = s2 ∧ S.f 3 = s3 ∧ S.f 4 = s4 := ⟨_, _, _, _, _, _, _, rfl, rfl, rfl, rfl, rfl, rfl, rfl⟩
  rw [hc, hd, hs0, hs1, hs2, hs3, hs4]
  have hS : ∀ i, wcell 24 (IntKind.u64.wrap imm) S i = if i = 2 then .int .u8 c else if i = 3 then .int .u32 rd else if i = 6 then .int .u32 s0 else if i = 7 then .int .u32 s1 else if i = 8 then .int .u32 s2 else if i = 9 then .int .u32 s3 else if i = 10 then .int .u32 s4 else wcell 24 (IntKind.u64.wrap imm) ⟨0, 0, fun j => S.f j⟩ i := fun i => by
    unfold wcell
    by_cases h2 : i = 2
    · subst h2; simp [hc]
    by_cases h3 : i = 3
    · subst h3; simp [hd]
    by_cases h6 : i = 6
    · subst h6; simp [hs0]
    by_cases h7 : i = 7
    · subst h7; simp [hs1]
    by_cases h8 : i = 8
    · subst h8; simp [hs2]
    by_cases h9 : i = 9
    · subst h9; simp [hs3]
    by_cases h10 : i = 10
    · subst h10; simp [hs4]
    simp [h2, h3, h6, h7, h8, h9, h10]
  have HS := hid hS
  clear hS hc hd hs0 hs1 hs2 hs3 hs4
  have HUW : Hid (∀ w2, RU 24 imm #[.int .i64 24, .int .i64 d, .int .i64 a, .int .i64 b, .int .i64 l, .int .i64 f, .int .i64 cond, .int .i64 real, .int .i64 size, .int .i64 imm, .slice va vn vc'] w S w2 → ∀ i, i < 11 → w2.cell? ⟨w.heap.size + 2, i, none⟩ = some (if i = 2 then .int .u8 c else if i = 3 then .int .u32 rd else if i = 6 then .int .u32 s0 else if i = 7 then .int .u32 s1 else if i = 8 then .int .u32 s2 else if i = 9 then .int .u32 s3 else if i = 10 then .int .u32 s4 else wcell 24 (IntKind.u64.wrap imm) ⟨0, 0, fun j => S.f j⟩ i)) := hid (fun w2 h i hi => by rw [h.out.cell i hi, HS.out i])
  go_enter Tryz.func115, Tryz.ntmps115
  go_wp2_with (first
    | (go_at_call 140; refine HG.out.mono ?_; rintro e w2 ⟨rfl, hru⟩; have hcc := HUW.out w2 hru; obtain ⟨b0, ⟨cr, hr⟩, h2, z2, tw2⟩ := hru; have k0 := b0 0; have k4 := b0 4; have k5 := b0 5; have k6 := b0 6; have k7 := b0 7; have k8 := b0 8; have d0 := hcc 0 (by omega); have d1 := hcc 1 (by omega); have d2 := hcc 2 (by omega); have d3 := hcc 3 (by omega); have d4 := hcc 4 (by omega); have d5 := hcc 5 (by omega); have d6 := hcc 6 (by omega); have d7 := hcc 7 (by omega); have d8 := hcc 8 (by omega); have d9 := hcc 9 (by omega); have d10 := hcc 10 (by omega); have r0 := hr.cell 0 (by omega); have r1 := hr.cell 1 (by omega); have r2 := hr.cell 2 (by omega); have r3 := hr.cell 3 (by omega); have r4 := hr.cell 4 (by omega); have r5 := hr.cell 5 (by omega); have r6 := hr.cell 6 (by omega); have r7 := hr.cell 7 (by omega); have r8 := hr.cell 8 (by omega); have r9 := hr.cell 9 (by omega); have r10 := hr.cell 10 (by omega); have rf := hr.froz; have df := h2.froz; have HR := hid hr; have HT2 := hid tw2; simp [wcell] at d0 d1 d2 d3 d4 d5 d6 d7 d8 d9 d10; simp at k0 k4 k5 k6 k7 k8; clear hr h2 tw2 b0 hcc))
  refine put11_all (bodyPost _ _ _ _ _) (HR.out.kept (Below.heap_setCell _ _ _ _ (by simp))) ?_
  intro W hW tW
  have e0 := hW.cell 0 (by omega); have e1 := hW.cell 1 (by omega); have e2 := hW.cell 2 (by omega); have e3 := hW.cell 3 (by omega); have e4 := hW.cell 4 (by omega); have e5 := hW.cell 5 (by omega); have e6 := hW.cell 6 (by omega); have e7 := hW.cell 7 (by omega); have e8 := hW.cell 8 (by omega); have e9 := hW.cell 9 (by omega); have e10 := hW.cell 10 (by omega)
  simp [c11] at e0 e1 e2 e3 e4 e5 e6 e7 e8 e9 e10
  have HTW : Hid (Tn No w W) := hid (by
    have t1 : Tn (fun k => k = w.heap.size + 2 ∨ k = w.heap.size + 1) w2 W := ((Tn.refl (fun k => k = w.heap.size + 2) w2).set _ _ (fun _ => rfl)).trans tW (fun _ _ e => .inl e) (fun _ _ e => .inr e)
    exact HT2.out.trans t1 (fun _ _ e => e) (fun i hi e => by omega))
  clear tW hW
  refine bodyPost_ret (v := rcVal 24 (0) c rd (f) (IntKind.u64.wrap imm) s0 s1 s2 s3 s4) (by simp [results, Tryz.results115, go_sem, rcVal, e0, e1, e2, e3, e4, e5, e6, e7, e8, e9, e10]) rfl ?_
  exact ⟨rfl, HTW.out⟩

set_option maxHeartbeats 4000000 in
set_option maxRecDepth 100000 in
theorem rword_28 (S : Gth) (hb : 0 ≤ f) (hb2 : f ≤ 1073741824)
    (hg : ∀ u pb, Tn No w u → CB u pb 11 (wcell 28 (IntKind.u64.wrap imm) ⟨0, 0, fun _ => 0⟩) → w.heap.size ≤ pb → Calls Tryz.prog 140 #[.agg #[.int .i64 28, .int .i64 d, .int .i64 a, .int .i64 b, .int .i64 l, .int .i64 f, .int .i64 cond, .int .i64 real, .int .i64 size, .int .i64 imm, .slice va vn vc'], .func (.func 144) #[] #[.pointer (some ⟨pb, 0, none⟩)]] u fun e w' => e = .returned (.tuple #[]) ∧ CB w' pb 11 (wcell 28 (IntKind.u64.wrap imm) S) ∧ Tn (fun k => k = pb) u w') :
    Calls Tryz.prog 115 #[.agg #[.int .i64 28, .int .i64 d, .int .i64 a, .int .i64 b, .int .i64 l, .int .i64 f, .int .i64 cond, .int .i64 real, .int .i64 size, .int .i64 imm, .slice va vn vc'], .map (some mb), .slice pl pn pc] w fun e w' => e = .returned (rcVal 28 (0) (S.c : Int) S.d (f) (IntKind.u64.wrap imm) (S.f 0) (S.f 1) (S.f 2) (S.f 3) (S.f 4)) ∧ Tn No w w' := by
  have hw : IntKind.i32.wrap f = f := by simp [IntKind.wrap, IntKind.bits, IntKind.signed]; omega
  have HG := hid (ru_of 28 d a b l f cond real size imm va vn vc' w S #[] hg)
  clear hg
  obtain ⟨c, rd, s0, s1, s2, s3, s4, hc, hd, hs0, hs1, hs2, hs3, hs4⟩ : ∃ c rd s0 s1 s2 s3 s4, (S.c : Int) = c ∧ S.d = rd ∧ S.f 0 = s0 ∧ S.f 1 = s1 ∧ S.f 2 = s2 ∧ S.f 3 = s3 ∧ S.f 4 = s4 := ⟨_, _, _, _, _, _, _, rfl, rfl, rfl, rfl, rfl, rfl, rfl⟩
  rw [hc, hd, hs0, hs1, hs2, hs3, hs4]
  have hS : ∀ i, wcell 28 (IntKind.u64.wrap imm) S i = if i = 2 then .int .u8 c else if i = 3 then .int .u32 rd else if i = 6 then .int .u32 s0 else if i = 7 then .int .u32 s1 else if i = 8 then .int .u32 s2 else if i = 9 then .int .u32 s3 else if i = 10 then .int .u32 s4 else wcell 28 (IntKind.u64.wrap imm) ⟨0, 0, fun j => S.f j⟩ i := fun i => by
    unfold wcell
    by_cases h2 : i = 2
    · subst h2; simp [hc]
    by_cases h3 : i = 3
    · subst h3; simp [hd]
    by_cases h6 : i = 6
    · subst h6; simp [hs0]
    by_cases h7 : i = 7
    · subst h7; simp [hs1]
    by_cases h8 : i = 8
    · subst h8; simp [hs2]
    by_cases h9 : i = 9
    · subst h9; simp [hs3]
    by_cases h10 : i = 10
    · subst h10; simp [hs4]
    simp [h2, h3, h6, h7, h8, h9, h10]
  have HS := hid hS
  clear hS hc hd hs0 hs1 hs2 hs3 hs4
  have HUW : Hid (∀ w2, RU 28 imm #[.int .i64 28, .int .i64 d, .int .i64 a, .int .i64 b, .int .i64 l, .int .i64 f, .int .i64 cond, .int .i64 real, .int .i64 size, .int .i64 imm, .slice va vn vc'] w S w2 → ∀ i, i < 11 → w2.cell? ⟨w.heap.size + 2, i, none⟩ = some (if i = 2 then .int .u8 c else if i = 3 then .int .u32 rd else if i = 6 then .int .u32 s0 else if i = 7 then .int .u32 s1 else if i = 8 then .int .u32 s2 else if i = 9 then .int .u32 s3 else if i = 10 then .int .u32 s4 else wcell 28 (IntKind.u64.wrap imm) ⟨0, 0, fun j => S.f j⟩ i)) := hid (fun w2 h i hi => by rw [h.out.cell i hi, HS.out i])
  go_enter Tryz.func115, Tryz.ntmps115
  go_wp2_with (first
    | (go_at_call 140; refine HG.out.mono ?_; rintro e w2 ⟨rfl, hru⟩; have hcc := HUW.out w2 hru; obtain ⟨b0, ⟨cr, hr⟩, h2, z2, tw2⟩ := hru; have k0 := b0 0; have k4 := b0 4; have k5 := b0 5; have k6 := b0 6; have k7 := b0 7; have k8 := b0 8; have d0 := hcc 0 (by omega); have d1 := hcc 1 (by omega); have d2 := hcc 2 (by omega); have d3 := hcc 3 (by omega); have d4 := hcc 4 (by omega); have d5 := hcc 5 (by omega); have d6 := hcc 6 (by omega); have d7 := hcc 7 (by omega); have d8 := hcc 8 (by omega); have d9 := hcc 9 (by omega); have d10 := hcc 10 (by omega); have r0 := hr.cell 0 (by omega); have r1 := hr.cell 1 (by omega); have r2 := hr.cell 2 (by omega); have r3 := hr.cell 3 (by omega); have r4 := hr.cell 4 (by omega); have r5 := hr.cell 5 (by omega); have r6 := hr.cell 6 (by omega); have r7 := hr.cell 7 (by omega); have r8 := hr.cell 8 (by omega); have r9 := hr.cell 9 (by omega); have r10 := hr.cell 10 (by omega); have rf := hr.froz; have df := h2.froz; have HR := hid hr; have HT2 := hid tw2; simp [wcell] at d0 d1 d2 d3 d4 d5 d6 d7 d8 d9 d10; simp at k0 k4 k5 k6 k7 k8; clear hr h2 tw2 b0 hcc))
  refine put11_all (bodyPost _ _ _ _ _) (HR.out.kept (Below.heap_setCell _ _ _ _ (by simp))) ?_
  intro W hW tW
  have e0 := hW.cell 0 (by omega); have e1 := hW.cell 1 (by omega); have e2 := hW.cell 2 (by omega); have e3 := hW.cell 3 (by omega); have e4 := hW.cell 4 (by omega); have e5 := hW.cell 5 (by omega); have e6 := hW.cell 6 (by omega); have e7 := hW.cell 7 (by omega); have e8 := hW.cell 8 (by omega); have e9 := hW.cell 9 (by omega); have e10 := hW.cell 10 (by omega)
  simp [c11] at e0 e1 e2 e3 e4 e5 e6 e7 e8 e9 e10
  have HTW : Hid (Tn No w W) := hid (by
    have t1 : Tn (fun k => k = w.heap.size + 2 ∨ k = w.heap.size + 1) w2 W := ((Tn.refl (fun k => k = w.heap.size + 2) w2).set _ _ (fun _ => rfl)).trans tW (fun _ _ e => .inl e) (fun _ _ e => .inr e)
    exact HT2.out.trans t1 (fun _ _ e => e) (fun i hi e => by omega))
  clear tW hW
  refine bodyPost_ret (v := rcVal 28 (0) c rd (f) (IntKind.u64.wrap imm) s0 s1 s2 s3 s4) (by simp [results, Tryz.results115, go_sem, rcVal, e0, e1, e2, e3, e4, e5, e6, e7, e8, e9, e10]) rfl ?_
  exact ⟨rfl, HTW.out⟩

set_option maxHeartbeats 4000000 in
set_option maxRecDepth 100000 in
theorem rword_20 (S : Gth) (y : Nat) (hy : y < pn) (hpn : pn ≤ 1073741824) (pg : Nat) (hpl : pl = some ⟨pg, 0, none⟩) (P : Int) (hpc : ∀ u, Tn No w u → u.cell? ⟨pg, y, none⟩ = some (.int .i32 P)) (hlk : ∀ u, Tn No w u → (Instr.lookup 80 (.map (some mb)) (.int .i64 l) false).run Tryz.prog u = .ok (.int .i64 (y : Int)) u)
    (hg : ∀ u pb, Tn No w u → CB u pb 11 (wcell 20 (IntKind.u64.wrap imm) ⟨0, 0, fun _ => 0⟩) → w.heap.size ≤ pb → Calls Tryz.prog 140 #[.agg #[.int .i64 20, .int .i64 d, .int .i64 a, .int .i64 b, .int .i64 l, .int .i64 f, .int .i64 cond, .int .i64 real, .int .i64 size, .int .i64 imm, .slice va vn vc'], .func (.func 144) #[] #[.pointer (some ⟨pb, 0, none⟩)]] u fun e w' => e = .returned (.tuple #[]) ∧ CB w' pb 11 (wcell 20 (IntKind.u64.wrap imm) S) ∧ Tn (fun k => k = pb) u w') :
    Calls Tryz.prog 115 #[.agg #[.int .i64 20, .int .i64 d, .int .i64 a, .int .i64 b, .int .i64 l, .int .i64 f, .int .i64 cond, .int .i64 real, .int .i64 size, .int .i64 imm, .slice va vn vc'], .map (some mb), .slice pl pn pc] w fun e w' => e = .returned (rcVal 20 (0) (S.c : Int) S.d (P) (IntKind.u64.wrap imm) (S.f 0) (S.f 1) (S.f 2) (S.f 3) (S.f 4)) ∧ Tn No w w' := by
  subst hpl
  have HPC := hid hpc
  have HLK := hid hlk
  clear hpc hlk
  have hyi : (y : Int) < (pn : Int) := by omega
  have HG := hid (ru_of 20 d a b l f cond real size imm va vn vc' w S #[] hg)
  clear hg
  obtain ⟨c, rd, s0, s1, s2, s3, s4, hc, hd, hs0, hs1, hs2, hs3, hs4⟩ : ∃ c rd s0 s1 s2 s3 s4, (S.c : Int) = c ∧ S.d = rd ∧ S.f 0 = s0 ∧ S.f 1 = s1 ∧ S.f 2 = s2 ∧ S.f 3 = s3 ∧ S.f 4 = s4 := ⟨_, _, _, _, _, _, _, rfl, rfl, rfl, rfl, rfl, rfl, rfl⟩
  rw [hc, hd, hs0, hs1, hs2, hs3, hs4]
  have hS : ∀ i, wcell 20 (IntKind.u64.wrap imm) S i = if i = 2 then .int .u8 c else if i = 3 then .int .u32 rd else if i = 6 then .int .u32 s0 else if i = 7 then .int .u32 s1 else if i = 8 then .int .u32 s2 else if i = 9 then .int .u32 s3 else if i = 10 then .int .u32 s4 else wcell 20 (IntKind.u64.wrap imm) ⟨0, 0, fun j => S.f j⟩ i := fun i => by
    unfold wcell
    by_cases h2 : i = 2
    · subst h2; simp [hc]
    by_cases h3 : i = 3
    · subst h3; simp [hd]
    by_cases h6 : i = 6
    · subst h6; simp [hs0]
    by_cases h7 : i = 7
    · subst h7; simp [hs1]
    by_cases h8 : i = 8
    · subst h8; simp [hs2]
    by_cases h9 : i = 9
    · subst h9; simp [hs3]
    by_cases h10 : i = 10
    · subst h10; simp [hs4]
    simp [h2, h3, h6, h7, h8, h9, h10]
  have HS := hid hS
  clear hS hc hd hs0 hs1 hs2 hs3 hs4
  have HUW : Hid (∀ w2, RU 20 imm #[.int .i64 20, .int .i64 d, .int .i64 a, .int .i64 b, .int .i64 l, .int .i64 f, .int .i64 cond, .int .i64 real, .int .i64 size, .int .i64 imm, .slice va vn vc'] w S w2 → ∀ i, i < 11 → w2.cell? ⟨w.heap.size + 2, i, none⟩ = some (if i = 2 then .int .u8 c else if i = 3 then .int .u32 rd else if i = 6 then .int .u32 s0 else if i = 7 then .int .u32 s1 else if i = 8 then .int .u32 s2 else if i = 9 then .int .u32 s3 else if i = 10 then .int .u32 s4 else wcell 20 (IntKind.u64.wrap imm) ⟨0, 0, fun j => S.f j⟩ i)) := hid (fun w2 h i hi => by rw [h.out.cell i hi, HS.out i])
  go_enter Tryz.func115, Tryz.ntmps115
  go_wp2_with (first
    | (go_at_call 140; refine HG.out.mono ?_; rintro e w2 ⟨rfl, hru⟩; have hcc := HUW.out w2 hru; obtain ⟨b0, ⟨cr, hr⟩, h2, z2, tw2⟩ := hru; have k0 := b0 0; have k4 := b0 4; have k5 := b0 5; have k6 := b0 6; have k7 := b0 7; have k8 := b0 8; have d0 := hcc 0 (by omega); have d1 := hcc 1 (by omega); have d2 := hcc 2 (by omega); have d3 := hcc 3 (by omega); have d4 := hcc 4 (by omega); have d5 := hcc 5 (by omega); have d6 := hcc 6 (by omega); have d7 := hcc 7 (by omega); have d8 := hcc 8 (by omega); have d9 := hcc 9 (by omega); have d10 := hcc 10 (by omega); have r0 := hr.cell 0 (by omega); have r1 := hr.cell 1 (by omega); have r2 := hr.cell 2 (by omega); have r3 := hr.cell 3 (by omega); have r4 := hr.cell 4 (by omega); have r5 := hr.cell 5 (by omega); have r6 := hr.cell 6 (by omega); have r7 := hr.cell 7 (by omega); have r8 := hr.cell 8 (by omega); have r9 := hr.cell 9 (by omega); have r10 := hr.cell 10 (by omega); have rf := hr.froz; have df := h2.froz; have HR := hid hr; have HT2 := hid tw2; have hpc := HPC.out w2 tw2; simp [wcell] at d0 d1 d2 d3 d4 d5 d6 d7 d8 d9 d10; simp at k0 k4 k5 k6 k7 k8; clear hr h2 tw2 b0 hcc)
    | (at_lookup; refine wpList_lookw _ rfl _ _ false rfl _ rfl _ rfl _ (HLK.out w2 HT2.out) ?_))
  refine put11_all (bodyPost _ _ _ _ _) (HR.out.kept (Below.heap_setCell _ _ _ _ (by simp))) ?_
  intro W hW tW
  have e0 := hW.cell 0 (by omega); have e1 := hW.cell 1 (by omega); have e2 := hW.cell 2 (by omega); have e3 := hW.cell 3 (by omega); have e4 := hW.cell 4 (by omega); have e5 := hW.cell 5 (by omega); have e6 := hW.cell 6 (by omega); have e7 := hW.cell 7 (by omega); have e8 := hW.cell 8 (by omega); have e9 := hW.cell 9 (by omega); have e10 := hW.cell 10 (by omega)
  simp [c11] at e0 e1 e2 e3 e4 e5 e6 e7 e8 e9 e10
  have HTW : Hid (Tn No w W) := hid (by
    have t1 : Tn (fun k => k = w.heap.size + 2 ∨ k = w.heap.size + 1) w2 W := ((Tn.refl (fun k => k = w.heap.size + 2) w2).set _ _ (fun _ => rfl)).trans tW (fun _ _ e => .inl e) (fun _ _ e => .inr e)
    exact HT2.out.trans t1 (fun _ _ e => e) (fun i hi e => by omega))
  clear tW hW
  refine bodyPost_ret (v := rcVal 20 (0) c rd (P) (IntKind.u64.wrap imm) s0 s1 s2 s3 s4) (by simp [results, Tryz.results115, go_sem, rcVal, e0, e1, e2, e3, e4, e5, e6, e7, e8, e9, e10]) rfl ?_
  exact ⟨rfl, HTW.out⟩
end
end Go.Proofs.YtoidddfpekbliaaGreat
