/-
  word: an instruction made ready: the branch. Made by gen_wready.py.
-/
import Derived.Test.YtoidddfpekbliaaGreatWReady3
import Derived.BigRegion
import Derived.Test.YtoidddfpekbliaaGreatWJ17
namespace Go.Proofs.YtoidddfpekbliaaGreat
set_option linter.unusedSimpArgs false
set_option linter.unusedVariables false
open Go.RowKit
attribute [local go_sem ↓] Go.wp_at_zero Go.wp_at_succ

section
variable (k d a b l f cond real size imm : Int) (va : Option Addr) (vn vc' : Nat) (mb : Nat) (pl : Option Addr) (pn pc : Nat) (w : World)

set_option maxHeartbeats 4000000 in
set_option maxRecDepth 100000 in
theorem rword_21 (S : Gth) (hb : 0 ≤ cond) (hb2 : cond ≤ 255) (y : Nat) (hy : y < pn) (hpn : pn ≤ 1073741824) (pg : Nat) (hpl : pl = some ⟨pg, 0, none⟩) (P : Int) (hpc : ∀ u, Tn No w u → u.cell? ⟨pg, y, none⟩ = some (.int .i32 P)) (hlk : ∀ u, Tn No w u → (Instr.lookup 80 (.map (some mb)) (.int .i64 l) false).run Tryz.prog u = .ok (.int .i64 (y : Int)) u)
    (hg : ∀ u pb, Tn No w u → CB u pb 11 (wcell 21 (IntKind.u64.wrap imm) ⟨0, 0, fun _ => 0⟩) → w.heap.size ≤ pb → Calls Tryz.prog 140 #[.agg #[.int .i64 21, .int .i64 d, .int .i64 a, .int .i64 b, .int .i64 l, .int .i64 f, .int .i64 cond, .int .i64 real, .int .i64 size, .int .i64 imm, .slice va vn vc'], .func (.func 144) #[] #[.pointer (some ⟨pb, 0, none⟩)]] u fun e w' => e = .returned (.tuple #[]) ∧ CB w' pb 11 (wcell 21 (IntKind.u64.wrap imm) S) ∧ Tn (fun k => k = pb) u w') :
    Calls Tryz.prog 115 #[.agg #[.int .i64 21, .int .i64 d, .int .i64 a, .int .i64 b, .int .i64 l, .int .i64 f, .int .i64 cond, .int .i64 real, .int .i64 size, .int .i64 imm, .slice va vn vc'], .map (some mb), .slice pl pn pc] w fun e w' => e = .returned (rcVal 21 (cond) (S.c : Int) S.d (P) (IntKind.u64.wrap imm) (S.f 0) (S.f 1) (S.f 2) (S.f 3) (S.f 4)) ∧ Tn No w w' := by
  have hw : IntKind.u8.wrap cond = cond := by simp [IntKind.wrap, IntKind.bits, IntKind.signed]; omega
  subst hpl
  have HPC := hid hpc
  have HLK := hid hlk
  clear hpc hlk
  have hyi : (y : Int) < (pn : Int) := by omega
  have HG := hid (ru_of 21 d a b l f cond real size imm va vn vc' w S #[] hg)
  clear hg
  obtain ⟨c, rd, s0, s1, s2, s3, s4, hc, hd, hs0, hs1, hs2, hs3, hs4⟩ : ∃ c rd s0 s1 s2 s3 s4, (S.c : Int) = c ∧ S.d = rd ∧ S.f 0 = s0 ∧ S.f 1 = s1 ∧ S.f 2 = s2 ∧ S.f 3 = s3 ∧ S.f 4 = s4 := ⟨_, _, _, _, _, _, _, rfl, rfl, rfl, rfl, rfl, rfl, rfl⟩
  rw [hc, hd, hs0, hs1, hs2, hs3, hs4]
  have hS : ∀ i, wcell 21 (IntKind.u64.wrap imm) S i = if i = 2 then .int .u8 c else if i = 3 then .int .u32 rd else if i = 6 then .int .u32 s0 else if i = 7 then .int .u32 s1 else if i = 8 then .int .u32 s2 else if i = 9 then .int .u32 s3 else if i = 10 then .int .u32 s4 else wcell 21 (IntKind.u64.wrap imm) ⟨0, 0, fun j => S.f j⟩ i := fun i => by
    unfold wcell
    by_cases h2 : i = 2
    · subst h2; simp [hc]
    by_cases h3 : i = 3
    · subst h3; simp [hd]
    by_cases h6 : i = 6
    · subst h6; simp [hs0]
    by_cases h7 : i = 7
    · subst h7; simp [hs1]
    by_cases h8 : i = 8
    · subst h8; simp [hs2]
    by_cases h9 : i = 9
    · subst h9; simp [hs3]
    by_cases h10 : i = 10
    · subst h10; simp [hs4]
    simp [h2, h3, h6, h7, h8, h9, h10]
  have HS := hid hS
  clear hS hc hd hs0 hs1 hs2 hs3 hs4
  have HUW : Hid (∀ w2, RU 21 imm #[.int .i64 21, .int .i64 d, .int .i64 a, .int .i64 b, .int .i64 l, .int .i64 f, .int .i64 cond, .int .i64 real, .int .i64 size, .int .i64 imm, .slice va vn vc'] w S w2 → ∀ i, i < 11 → w2.cell? ⟨w.heap.size + 2, i, none⟩ = some (if i = 2 then .int .u8 c else if i = 3 then .int .u32 rd else if i = 6 then .int .u32 s0 else if i = 7 then .int .u32 s1 else if i = 8 then .int .u32 s2 else if i = 9 then .int .u32 s3 else if i = 10 then .int .u32 s4 else wcell 21 (IntKind.u64.wrap imm) ⟨0, 0, fun j => S.f j⟩ i)) := hid (fun w2 h i hi => by rw [h.out.cell i hi, HS.out i])
  go_enter Tryz.func115, Tryz.ntmps115
  go_wp2_with (first
    | (go_at_call 140; refine HG.out.mono ?_; rintro e w2 ⟨rfl, hru⟩; have hcc := HUW.out w2 hru; obtain ⟨b0, ⟨cr, hr⟩, h2, z2, tw2⟩ := hru; have k0 := b0 0; have k4 := b0 4; have k5 := b0 5; have k6 := b0 6; have k7 := b0 7; have k8 := b0 8; have d0 := hcc 0 (by omega); have d1 := hcc 1 (by omega); have d2 := hcc 2 (by omega); have d3 := hcc 3 (by omega); have d4 := hcc 4 (by omega); have d5 := hcc 5 (by omega); have d6 := hcc 6 (by omega); have d7 := hcc 7 (by omega); have d8 := hcc 8 (by omega); have d9 := hcc 9 (by omega); have d10 := hcc 10 (by omega); have r0 := hr.cell 0 (by omega); have r1 := hr.cell 1 (by omega); have r2 := hr.cell 2 (by omega); have r3 := hr.cell 3 (by omega); have r4 := hr.cell 4 (by omega); have r5 := hr.cell 5 (by omega); have r6 := hr.cell 6 (by omega); have r7 := hr.cell 7 (by omega); have r8 := hr.cell 8 (by omega); have r9 := hr.cell 9 (by omega); have r10 := hr.cell 10 (by omega); have rf := hr.froz; have df := h2.froz; have HR := hid hr; have HT2 := hid tw2; have hpc := HPC.out w2 tw2; simp [wcell] at d0 d1 d2 d3 d4 d5 d6 d7 d8 d9 d10; simp at k0 k4 k5 k6 k7 k8; clear hr h2 tw2 b0 hcc))
  have HLK2 : Hid (∀ u, Tn (fun k => k = w.heap.size + 2) w2 u → (Instr.lookup 80 (.map (some mb)) (.int .i64 l) false).run Tryz.prog u = .ok (.int .i64 (y : Int)) u) := hid (fun u t => HLK.out u (HT2.out.trans t (fun _ _ e => e) (fun i hi e => by omega)))
  have l1 := HLK2.out w2.drew (by repeat (first | exact Tn.refl _ _ | apply Tn.drew | apply Tn.drewN))
  have hpgl : pg < w2.heap.size := World.block_lt_of_cell? _ _ hpc
  have hpgl0 : pg < w.heap.size := World.block_lt_of_cell? _ _ (HPC.out w (Tn.refl _ _))
  have hpc2 : (w2.setCell ⟨w.heap.size + 1 + 1, 1, none⟩ (.int .u8 cond)).cell? ⟨pg, y, none⟩ = some (.int .i32 P) := by
    rw [World.cell?_setCell_other w2 _ _ _ (by intro e; cases e; omega)]; exact hpc
  have l3 := HLK2.out (w2.setCell ⟨w.heap.size + 1 + 1, 1, none⟩ (.int .u8 cond)).drew (by repeat (first | exact Tn.refl _ _ | apply Tn.drew | apply Tn.drewN | (refine Tn.set ?_ _ _ (fun _ => rfl))))
  have l2 := HLK2.out (w2.drew.setCell ⟨w.heap.size + 1 + 1, 1, none⟩ (.int .u8 cond)) (by repeat (first | exact Tn.refl _ _ | apply Tn.drew | apply Tn.drewN | (refine Tn.set ?_ _ _ (fun _ => rfl))))
  go_region
  go_wp2_with fail
  refine put11_all (fun W => bodyPost _ _ _ _ _ W.drew) ((HR.out.kept (Below.heap_setCell _ _ _ _ (by simp))).kept (Below.heap_setCell _ _ _ _ (by simp))) ?_
  intro W0 hW0 tW0
  obtain ⟨W, hWd⟩ : ∃ W, W0.drew = W := ⟨_, rfl⟩
  have hW := hW0.kept (w' := W0.drew) rfl
  have tW := tW0.drew
  rw [hWd] at tW hW ⊢
  clear hW0 tW0 hWd
  have e0 := hW.cell 0 (by omega); have e1 := hW.cell 1 (by omega); have e2 := hW.cell 2 (by omega); have e3 := hW.cell 3 (by omega); have e4 := hW.cell 4 (by omega); have e5 := hW.cell 5 (by omega); have e6 := hW.cell 6 (by omega); have e7 := hW.cell 7 (by omega); have e8 := hW.cell 8 (by omega); have e9 := hW.cell 9 (by omega); have e10 := hW.cell 10 (by omega)
  simp [c11] at e0 e1 e2 e3 e4 e5 e6 e7 e8 e9 e10
  have HTW : Hid (Tn No w W) := hid (by
    have t1 : Tn (fun k => k = w.heap.size + 2 ∨ k = w.heap.size + 1) w2 W := (((Tn.refl (fun k => k = w.heap.size + 2) w2).set _ _ (fun _ => rfl)).set _ _ (fun _ => rfl)).trans tW (fun _ _ e => .inl e) (fun _ _ e => .inr e)
    exact HT2.out.trans t1 (fun _ _ e => e) (fun i hi e => by omega))
  clear tW hW
  refine bodyPost_ret (v := rcVal 21 (cond) c rd (P) (IntKind.u64.wrap imm) s0 s1 s2 s3 s4) (by simp [results, Tryz.results115, go_sem, rcVal, e0, e1, e2, e3, e4, e5, e6, e7, e8, e9, e10]) rfl ?_
  exact ⟨rfl, HTW.out⟩
end
end Go.Proofs.YtoidddfpekbliaaGreat
namespace Go.Proofs.YtoidddfpekbliaaGreat
set_option linter.unusedSimpArgs false
set_option linter.unusedVariables false
open Go.RowKit
attribute [local go_sem ↓] Go.wp_at_zero Go.wp_at_succ

theorem wrapi_small (n : Int) (h : 0 ≤ n) (h2 : n ≤ 4611686018427387904) : IntKind.i64.wrap n = n := by
  simp [IntKind.wrap, IntKind.bits, IntKind.signed]; omega
theorem wrapu_small (n : Int) (h : 0 ≤ n) (h2 : n ≤ 18446744073709551615) : IntKind.u64.wrap n = n := by
  simp [IntKind.wrap, IntKind.bits, IntKind.signed]; omega
theorem wrap64_small (n : Int) (h : 0 ≤ n) (h2 : n ≤ 4611686018427387904) : wrap64 n = n := by unfold wrap64; omega

/-- what is known of an instruction of a program that may be -/
structure QWF (R : List RFun) (f : RFun) (k : Nat) (q : RCode) : Prop where
  kd : q.kind ≤ 255
  cnt : q.count ≤ 5
  fr : ∀ i, i < 5 → q.frm i < 4294967296
  d : q.d < 4294967296
  im : 0 ≤ q.imm ∧ q.imm ≤ 18446744073709551615
  next : q.kind ≠ 20 → q.kind ≠ 24 → q.kind ≠ 25 → q.kind ≠ 26 → k + 1 < f.code.length
  to' : q.kind = 20 ∨ q.kind = 21 → ∃ n : Nat, q.to_ = n ∧ n < f.code.length
  call : q.kind = 22 ∨ q.kind = 24 → ∃ (n : Nat) (g : RFun), q.to_ = n ∧ R[n]? = some g ∧ g.params = q.count
  app : q.kind = 23 ∨ q.kind = 25 → 1 ≤ q.count ∧ q.to_ = 0
  size : q.kind = 17 ∨ q.kind = 18 → q.how = 1 ∨ q.how = 4 ∨ q.how = 8
  hw : q.how ≤ 255
  fnc : q.kind = 28 → 0 ≤ q.to_ ∧ q.to_ ≤ 2147483647
structure RWF (R : List RFun) : Prop where
  len : R.length ≤ 4194304
  fn : ∀ (i : Nat) (f : RFun), R[i]? = some f → f.params ≤ 4 ∧ 1 ≤ f.code.length ∧ f.code.length ≤ 4194304 ∧ ∀ (k : Nat) (q : RCode), f.code[k]? = some q → QWF R f k q

/-- a call is in a place of its function -/
def FOk (R : List RFun) (f : Fr) : Prop := ∃ g, R[f.fn]? = some g ∧ f.at_ < g.code.length
/-- one that waits for an answer -/
def FWait (R : List RFun) (f : Fr) : Prop := FOk R f ∧ 1 ≤ f.at_

def Fr.setBank (g : Fr) (r : Bool) (B : Nat → Option Int) : Fr := match r with | true => { g with slots := B } | false => { g with regs := B }

theorem bankOf_set (fs : List Fr) (g : Fr) (r : Bool) (B : Nat → Option Int) : upd2 (bankOf (fs ++ [g])) fs.length r B = bankOf (fs ++ [g.setBank r B]) := by
  funext j s
  unfold upd2 bankOf
  by_cases e : j = fs.length
  · subst e
    rw [List.getElem?_append_right (Nat.le_refl _), List.getElem?_append_right (Nat.le_refl _)]
    cases r <;> cases s <;> simp [Fr.setBank]
  · rw [if_neg (by simp [e])]
    rcases Nat.lt_or_ge j fs.length with h | h
    · rw [List.getElem?_append_left h, List.getElem?_append_left h]
    · rw [List.getElem?_eq_none (by simp; omega), List.getElem?_eq_none (by simp; omega)]
theorem bankOf_last (fs : List Fr) (g : Fr) (r : Bool) : bankOf (fs ++ [g]) fs.length r = cond r g.slots g.regs := by
  unfold bankOf
  rw [List.getElem?_append_right (Nat.le_refl _)]
  simp

section
variable {p N fb pw : Nat} {R : List RFun} {strict : Bool} {X : PSt} {b cap : Nat} {vd vh : Value} {fc c : Nat → Value} {w : World} {L : Nat → Option Lb} {Lw : Nat → Option Lab} {fs : List Fr} {g : Fr}

/-- the last call's bank has turned -/
theorem OX.setLast {K : Nat} {r : Bool} {B : Nat → Option Int} {w' : World} (h : OX p N b cap fb (fs ++ [g]) fc c w L) (hb : BP p K b cap (upd2 (bankOf (fs ++ [g])) fs.length r B) fc c w L w') :
    ∃ L' fc' c', OX p K b cap fb (fs ++ [g.setBank r B]) fc' c' w' L' ∧ Lq (fun k => k = p) Lb.isOp w L w' L' ∧ ∀ i, i ≠ 13 → c' i = c i := by
  obtain ⟨L', fc', c', g1, g2, g3, g4⟩ := hb
  rw [bankOf_set] at g1
  refine ⟨L', fc', c', ⟨g1, by have := h.len; simpa using this, h.cm, by have := h.most; simpa using this, by rw [g3 12 (by omega), h.ov]; simp, fun j f e => ?_⟩, g2.op (.inl h.bx.lb), g3⟩
  rw [g4 _ (by omega), g4 _ (by omega)]
  rcases Nat.lt_or_ge j fs.length with hj | hj
  · rw [List.getElem?_append_left hj] at e
    exact h.hd j f (by rw [List.getElem?_append_left hj]; exact e)
  · have hj2 : j = fs.length := by
      have := (List.getElem?_eq_some_iff.1 e).1
      simp at this; omega
    subst hj2
    have ef : f = g.setBank r B := by simpa using e.symm
    subst ef
    have := h.hd fs.length g (by simp)
    cases r <;> exact this

/-- a cell of the last call's bank is set -/
theorem PR.putLast (h : PR p N fb pw R strict X b cap vd vh fc c w L Lw) (hf : X.fs = fs ++ [g]) (r : Bool) (hN : N < 4611686018427387904) (i : Nat) (hi : i < 18446744073709551616) (x : Int) (hx : 0 ≤ x ∧ x ≤ 18446744073709551615) :
    Calls Tryz.prog 82 #[.pointer (some ⟨b, bo fs.length r, none⟩), .int .u64 (i : Int), .int .u64 x, .pointer (some ⟨p, 13, none⟩)] w fun e w' => e = .returned (.tuple #[]) ∧ ∃ L' fc' c', PR p (N + 1) fb pw R strict { X with fs := fs ++ [g.setBank r (upd (cond r g.slots g.regs) i (some x))] } b cap vd vh fc' c' w' L' Lw ∧ Tn (fun k => L k ≠ none ∨ Lw k ≠ none) w w' ∧ (∀ k, k < w.heap.size → L k = none → Lw k = none → L' k = none ∧ Lw k = none) ∧ (∀ k, L k = some .prog → w'.heap[k]? = w.heap[k]?) := by
  have ho := h.ox
  rw [hf] at ho
  have hl := ho.len
  simp at hl
  refine (put_bx ho.bx fs.length r (by omega) hN i hi x hx).mono ?_
  rintro e w' ⟨rfl, hb⟩
  rw [bankOf_last] at hb
  obtain ⟨L', fc', c', g1, g2, g3⟩ := ho.setLast hb
  exact ⟨rfl, L', fc', c', h.openX (Nat.le_succ N) g1 g2 (fun i _ h2 => g3 i h2)⟩

/-- what an answer does -/
def PSt.back (R : List RFun) (X : PSt) (x : Int) : PSt :=
  match X.fs.dropLast.reverse with
  | g :: r => { X with fs := r.reverse ++ [g.setBank false (upd g.regs ((((R[g.fn]?).bind fun f => f.code[g.at_ - 1]?).map fun q => q.d).getD 0) (some x))] }
  | [] => if X.entered then { X with fs := [], status := 3, answer := x } else { X with fs := [] }.exit x

theorem PR.pops {f : Fr} (h : PR p N fb pw R strict X b cap vd vh fc c w L Lw) (hf : X.fs = fs ++ [f]) :
    Calls Tryz.prog 51 #[.pointer (some ⟨p, 0, none⟩)] w fun e w' => e = .returned (.tuple #[]) ∧ PL p N fb pw R strict { X with fs := fs } w L Lw w' := by
  have ho := h.ox
  rw [hf] at ho
  refine (pop_raw ho).mono ?_
  rintro e w' ⟨rfl, L', fc', c', g1, g2, g3⟩
  exact ⟨rfl, h.open_ (Nat.le_refl N) g1 (g2.op (.inl ho.bx.lb)) (fun i h1 h2 => g3 i (by rintro (q | q); exact h1 q; exact h2 q))⟩

/-- the cells of the last call, and of the instruction at a place of its function -/
structure LastAt (p b fb n : Nat) (g : Fr) (w : World) : Prop where
  k0 : w.cell? ⟨b, n * 8, none⟩ = some (.pointer (some ⟨fb, 3 * g.fn, none⟩))
  k1 : w.cell? ⟨b, n * 8 + 1, none⟩ = some (.int .i64 (g.at_ : Int))
  f0 : w.frozen? ⟨b, n * 8, none⟩ = false
  f1 : w.frozen? ⟨b, n * 8 + 1, none⟩ = false
  lt : b < w.heap.size
  ov : ∃ cap, w.cell? ⟨p, 12, none⟩ = some (.slice (some ⟨b, 0, none⟩) (n + 1) cap) ∧ n + 1 ≤ cap
theorem PR.last (h : PR p N fb pw R strict X b cap vd vh fc c w L Lw) (hf : X.fs = fs ++ [g]) : LastAt p b fb fs.length g w ∧ fs.length + 1 ≤ 1048576 := by
  have ho := h.ox
  rw [hf] at ho
  have hl := ho.len
  have hm := ho.most
  rw [List.length_append] at hl hm
  simp only [List.length_singleton] at hl hm
  obtain ⟨q1, q2⟩ := ho.hd fs.length g (by simp)
  rw [Nat.mul_comm] at q1 q2
  refine ⟨⟨by rw [ho.bx.fb.cell _ (by omega), q1], by rw [ho.bx.fb.cell _ (by omega), q2], ho.bx.fb.froz _, ho.bx.fb.froz _, ho.bx.fb.lt, cap, ?_, hl⟩, hm⟩
  rw [ho.bx.pc.cell 12 (by omega), ho.ov]; simp

set_option maxHeartbeats 4000000 in
set_option maxRecDepth 100000 in
theorem back_more {f : Fr} (hR : RWF R) (h : PR p N fb pw R strict X b cap vd vh fc c w L Lw) (hf : X.fs = (fs ++ [g]) ++ [f]) (hg : FWait R g) (x : Int) (hx : 0 ≤ x ∧ x ≤ 18446744073709551615) (hN : N < 4611686018427387904) :
    Calls Tryz.prog 81 #[.pointer (some ⟨p, 0, none⟩), .int .u64 x] w fun e w' => e = .returned (.tuple #[]) ∧ PL p (N + 1) fb pw R strict (X.back R x) w L Lw w' := by
  obtain ⟨⟨gf, hgf, hat⟩, hat1⟩ := hg
  obtain ⟨k, hk⟩ : ∃ k, g.at_ = k + 1 := ⟨g.at_ - 1, by omega⟩
  obtain ⟨q, hq⟩ : ∃ q, gf.code[k]? = some q := ⟨_, List.getElem?_eq_getElem (show k < gf.code.length by omega)⟩
  have hwf := (hR.fn g.fn gf hgf).2.2.2 k q hq
  have eb : X.back R x = { X with fs := fs ++ [g.setBank false (upd g.regs q.d (some x))] } := by
    unfold PSt.back
    rw [hf]
    simp [hgf, hk, hq]
  rw [eb]
  have HP := hid (h.pops (by rw [hf]))
  have HW : Hid (∀ w1, PL p N fb pw R strict { X with fs := fs ++ [g] } w L Lw w1 → ∃ b1 cap1 cb ccap, fs.length + 1 ≤ cap1 ∧ k < ccap ∧ fs.length + 1 ≤ 1048576 ∧ p < w1.heap.size ∧ w1.cell? ⟨p, 12, none⟩ = some (.slice (some ⟨b1, 0, none⟩) (fs.length + 1) cap1) ∧ w1.cell? ⟨b1, fs.length * 8, none⟩ = some (.pointer (some ⟨fb, 3 * g.fn, none⟩)) ∧ w1.cell? ⟨b1, fs.length * 8 + 1, none⟩ = some (.int .i64 ((k : Int) + 1)) ∧
      w1.cell? ⟨fb, 3 * g.fn + 2, none⟩ = some (.slice (some ⟨cb, 0, none⟩) gf.code.length ccap) ∧ w1.cell? ⟨cb, k * 11 + 3, none⟩ = some (.int .u32 (q.d : Int)) ∧
      ∀ w2, Tn No w1 w2 → Calls Tryz.prog 82 #[.pointer (some ⟨b1, fs.length * 8 + 2, none⟩), .int .u64 (q.d : Int), .int .u64 x, .pointer (some ⟨p, 13, none⟩)] w2 fun e w' => e = .returned (.tuple #[]) ∧ (w'.cell? ⟨b1, fs.length * 8, none⟩ = some (.pointer (some ⟨fb, 3 * g.fn, none⟩)) ∧ w'.cell? ⟨b1, fs.length * 8 + 1, none⟩ = some (.int .i64 ((k : Int) + 1)) ∧ w'.cell? ⟨fb, 3 * g.fn + 2, none⟩ = some (.slice (some ⟨cb, 0, none⟩) gf.code.length ccap) ∧ w'.cell? ⟨cb, k * 11 + 3, none⟩ = some (.int .u32 (q.d : Int))) ∧ PL p (N + 1) fb pw R strict { X with fs := fs ++ [g.setBank false (upd g.regs q.d (some x))] } w L Lw w') := by
    rintro w1 ⟨L1, Lw1, ⟨b1, cap1, vd1, vh1, fc1, c1, g1⟩, g2, g3⟩
    obtain ⟨hl, hm⟩ := g1.last (fs := fs) (g := g) rfl
    obtain ⟨cap2, ho1, ho2⟩ := hl.ov
    obtain ⟨p1, p2, cb, ccap, p3, p4, p5, p6⟩ := g1.pg.fn g.fn gf hgf
    have hk1 := hl.k1
    rw [hk] at hk1
    refine ⟨b1, cap2, cb, ccap, ho2, by omega, hm, g1.ox.bx.pc.lt, ho1, hl.k0, by rw [hk1]; simp, p3, (p6 k q hq).k3, fun w2 t => ?_⟩
    have := (g1.no t).putLast (fs := fs) (g := g) rfl false hN q.d (by have := hwf.d; omega) x hx
    have e2 : bo fs.length false = fs.length * 8 + 2 := by unfold bo; rw [Nat.mul_comm]; rfl
    rw [e2] at this
    refine this.mono ?_
    rintro e w' ⟨rfl, L3, fc3, c3, z1, z2, z3, z4⟩
    obtain ⟨hl3, _⟩ := z1.last (fs := fs) (g := g.setBank false (upd g.regs q.d (some x))) rfl
    have hk3 := hl3.k1
    have e1 : ∀ k o, L1 k = some .prog → w'.cell? ⟨k, o, none⟩ = w1.cell? ⟨k, o, none⟩ := fun k o e => World.cell?_of_block (w := w1) ((z4 k e).trans (t.block k (g1.lt k (by rw [e]; simp)) (fun e => e)))
    refine ⟨rfl, ⟨hl3.k0, by rw [hk3]; show some (Value.int IntKind.i64 (g.at_ : Int)) = _; rw [hk]; simp, by rw [e1 _ _ g1.pg.lab]; exact p3, by rw [e1 _ _ p5]; exact (p6 k q hq).k3⟩, ?_⟩
    have hpl : PL p (N + 1) fb pw R strict { X with fs := fs ++ [g.setBank false (upd g.regs q.d (some x))] } w2 L1 Lw1 w' := ⟨L3, Lw1, z1.pa, z2, z3⟩
    exact hpl.trans (g2.thenNo t) (fun k hk h1 h2 => g3 k hk h1 h2)
  have hmost : fs.length + 1 ≤ 1048576 := by
    have := h.ox.most
    rw [hf] at this
    simp only [List.length_append, List.length_singleton] at this
    omega
  have hcl := (hR.fn g.fn gf hgf).2.2.1
  have hd := hwf.d
  have hkl : k < gf.code.length := by omega
  clear h hR hf hgf hat hat1 hq hwf eb hk
  obtain ⟨n, hn⟩ : ∃ n, fs.length = n := ⟨_, rfl⟩
  obtain ⟨cl, hc⟩ : ∃ cl, gf.code.length = cl := ⟨_, rfl⟩
  rw [hn, hc] at HW
  rw [hc] at hcl hkl
  have hm2 := hmost
  rw [hn] at hm2
  have y3' : (n : Int) ≤ 1048575 := by omega
  have w0 := wrap64_small (n : Int) (by omega) (by omega)
  have w1' := wrapi_small (n : Int) (by omega) (by omega)
  have w2' : IntKind.i64.wrap ((n : Int) + 1 - 1) = n := by rw [Int.add_sub_cancel]; exact w1'
  have w3' := wrapi_small (k : Int) (by omega) (by omega)
  have w4' : IntKind.i64.wrap ((k : Int) + 1 - 1) = k := by rw [Int.add_sub_cancel]; exact w3'
  clear hm2 hmost
  have a0 : (0 : Int) ≤ (n : Int) := by omega
  have a1 : (n : Int) < (n : Int) + 1 := by omega
  have a2 : ((n + 1 : Nat) : Int) - 1 = (n : Int) := by omega
  have b0 : (0 : Int) ≤ (k : Int) := by omega
  have b1' : (k : Int) < (cl : Int) := by omega
  have b2 : (cl : Int) ≤ 4194304 := by omega
  have hd0 : (0 : Int) ≤ (q.d : Int) := by omega
  have hd1 : (q.d : Int) ≤ 4294967295 := by omega
  obtain ⟨qd, hqd⟩ : ∃ qd, q.d = qd := ⟨_, rfl⟩
  rw [hqd] at HW hd0 hd1 ⊢
  have w5' := wrapu_small (qd : Int) hd0 (by omega)
  clear hn hc hqd hd hcl hkl
  go_enter Tryz.func81, Tryz.ntmps81
  go_wp2_with (go_at_call 51; refine HP.out.mono ?_; rintro e w1 ⟨rfl, hpl⟩; obtain ⟨b1, cap1, cb, ccap, y1, y2, y3, y4, y5, y6, y7, y8, y9, hcall⟩ := HW.out w1 hpl; have HC := hid hcall; clear hcall hpl)
  go_quiet (fail)
  go_wp2_with fail
  go_region_held3 (fun w' => w'.cell? ⟨b1, n * 8, none⟩ = some (.pointer (some ⟨fb, 3 * g.fn, none⟩)) ∧ w'.cell? ⟨b1, n * 8 + 1, none⟩ = some (.int .i64 ((k : Int) + 1)) ∧ w'.cell? ⟨fb, 3 * g.fn + 2, none⟩ = some (.slice (some ⟨cb, 0, none⟩) cl ccap) ∧ w'.cell? ⟨cb, k * 11 + 3, none⟩ = some (.int .u32 (qd : Int))) (go_keep) (first
    | (go_at_call 82; refine (HC.out _ (by repeat (first | exact Tn.refl _ _ | apply Tn.drew | apply Tn.drewN | apply Tn.alloc | (refine Tn.then ?_ (by assumption)) | (refine Tn.thenNo ?_ (by assumption))))).mono ?_; rintro e w2 ⟨rfl, ⟨z1, z2, z3, z4⟩, hop⟩; have HE := hid hop; clear hop))
  go_wp2
  go_end0
  exact ⟨rfl, HE.out⟩

set_option maxHeartbeats 4000000 in
set_option maxRecDepth 100000 in
theorem back_last {f : Fr} (h : PR p N fb pw R strict X b cap vd vh fc c w L Lw) (hf : X.fs = [f]) (x : Int) (hx : 0 ≤ x ∧ x ≤ 18446744073709551615) :
    Calls Tryz.prog 81 #[.pointer (some ⟨p, 0, none⟩), .int .u64 x] w fun e w' => e = .returned (.tuple #[]) ∧ PL p N fb pw R strict (X.back R x) w L Lw w' := by
  have HP := hid (h.pops (fs := []) (by rw [hf]; rfl))
  cases hen : X.entered
  · have eb : X.back R x = { X with fs := [] }.exit x := by
      unfold PSt.back
      rw [hf]
      simp [hen]
    rw [eb]
    have HW : Hid (∀ w1, PL p N fb pw R strict { X with fs := [] } w L Lw w1 → ∃ b1 cap1, w1.cell? ⟨p, 12, none⟩ = some (.slice (some ⟨b1, 0, none⟩) 0 cap1) ∧ w1.cell? ⟨p, 11, none⟩ = some (.bool false) ∧ p < w1.heap.size ∧ Calls Tryz.prog 122 #[.pointer (some ⟨p, 0, none⟩), .int .u64 x] w1 fun e w' => e = .returned (.tuple #[]) ∧ PL p N fb pw R strict ({ X with fs := [] }.exit x) w L Lw w') := by
      rintro w1 ⟨L1, Lw1, ⟨b1, cap1, vd1, vh1, fc1, c1, g1⟩, g2, g3⟩
      refine ⟨b1, cap1, by rw [g1.ox.bx.pc.cell 12 (by omega), g1.ox.ov]; rfl, by rw [g1.ox.bx.pc.cell 11 (by omega), g1.c11]; simp [hen], g1.ox.bx.pc.lt, (exit_raw g1 x hx).mono (fun e w' z => ⟨z.1, z.2.trans g2 g3⟩)⟩
    clear h hf hen eb
    go_enter Tryz.func81, Tryz.ntmps81
    go_wp2_with (first
      | (go_at_call 51; refine HP.out.mono ?_; rintro e w1 ⟨rfl, hpl⟩; obtain ⟨b1, cap1, y1, y2, y3, hcall⟩ := HW.out w1 hpl; have HC := hid hcall; clear hcall hpl)
      | (go_at_call 122; refine HC.out.mono ?_; rintro e w2 ⟨rfl, hpl⟩; have HE := hid hpl; clear hpl))
    go_end0
    exact ⟨rfl, HE.out⟩
  · have eb : X.back R x = { X with fs := [], status := 3, answer := x } := by
      unfold PSt.back
      rw [hf]
      simp [hen]
    rw [eb]
    have HW : Hid (∀ w1, PL p N fb pw R strict { X with fs := [] } w L Lw w1 → ∃ b1 cap1, w1.cell? ⟨p, 12, none⟩ = some (.slice (some ⟨b1, 0, none⟩) 0 cap1) ∧ w1.cell? ⟨p, 11, none⟩ = some (.bool true) ∧ p < w1.heap.size ∧ (∃ v, w1.cell? ⟨p, 14, none⟩ = some v) ∧ (∃ v, w1.cell? ⟨p, 16, none⟩ = some v) ∧ w1.frozen? ⟨p, 14, none⟩ = false ∧ w1.frozen? ⟨p, 16, none⟩ = false ∧
        PL p N fb pw R strict { X with fs := [], status := 3, answer := x } w L Lw ((w1.setCell ⟨p, 14, none⟩ (.int .i64 3)).setCell ⟨p, 16, none⟩ (.int .u64 x))) := by
      rintro w1 ⟨L1, Lw1, ⟨b1, cap1, vd1, vh1, fc1, c1, g1⟩, g2, g3⟩
      obtain ⟨z1, t1⟩ := g1.own (X' := { X with fs := [], status := 3 }) 14 (by omega) (by omega) (.int .i64 3) rfl rfl rfl (by rw [upd_other _ _ (by omega)]; exact g1.c11) (upd_same _ _ _) (by rw [upd_other _ _ (by omega)]; exact g1.c15) (by rw [upd_other _ _ (by omega)]; exact g1.c16) (by rw [upd_other _ _ (by omega)]; exact g1.c17)
      obtain ⟨z2, t2⟩ := z1.own (X' := { X with fs := [], status := 3, answer := x }) 16 (by omega) (by omega) (.int .u64 x) rfl rfl rfl (by rw [upd_other _ _ (by omega)]; exact z1.c11) (by rw [upd_other _ _ (by omega)]; exact z1.c14) (by rw [upd_other _ _ (by omega)]; exact z1.c15) (upd_same _ _ _) (by rw [upd_other _ _ (by omega)]; exact z1.c17)
      refine ⟨b1, cap1, by rw [g1.ox.bx.pc.cell 12 (by omega), g1.ox.ov]; rfl, by rw [g1.ox.bx.pc.cell 11 (by omega), g1.c11]; simp [hen], g1.ox.bx.pc.lt, ⟨_, g1.ox.bx.pc.cell 14 (by omega)⟩, ⟨_, g1.ox.bx.pc.cell 16 (by omega)⟩, g1.ox.bx.pc.froz _, g1.ox.bx.pc.froz _, ?_⟩
      have hpl : PL p N fb pw R strict { X with fs := [], status := 3, answer := x } w1 L1 Lw1 _ := ⟨L1, Lw1, z2.pa, t1.then t2, fun _ _ h1 h2 => ⟨h1, h2⟩⟩
      exact hpl.trans g2 g3
    clear h hf hen eb
    go_enter Tryz.func81, Tryz.ntmps81
    go_wp2_with (go_at_call 51; refine HP.out.mono ?_; rintro e w1 ⟨rfl, hpl⟩; obtain ⟨b1, cap1, y1, y2, y3, ⟨v4, y4⟩, ⟨v5, y5⟩, y6, y7, hend⟩ := HW.out w1 hpl; have HE := hid hend; clear hend hpl)
    go_end0
    exact ⟨rfl, HE.out⟩
end
end Go.Proofs.YtoidddfpekbliaaGreat
namespace Go.Proofs.YtoidddfpekbliaaGreat
set_option linter.unusedSimpArgs false
set_option linter.unusedVariables false
open Go.RowKit
attribute [local go_sem ↓] Go.wp_at_zero Go.wp_at_succ

/-- the function whose address a word is -/
def funAt (R : List RFun) (x : Int) : Option Nat :=
  if IntKind.u64.wrap (x - 4194304) % 16 = 0 ∧ IntKind.u64.wrap (x - 4194304) / 16 < (R.length : Int) then some (IntKind.u64.wrap (x - 4194304) / 16).toNat else none
def fpv (fb : Nat) : Option Nat → Value
  | none => .pointer none
  | some n => .pointer (some ⟨fb, 3 * n, none⟩)

section
variable {p N fb pw : Nat} {R : List RFun} {strict : Bool} {X : PSt} {b cap : Nat} {vd vh : Value} {fc c : Nat → Value} {w : World} {L : Nat → Option Lb} {Lw : Nat → Option Lab} {fs : List Fr} {g : Fr}

set_option maxHeartbeats 2000000 in
theorem function_raw (hR : RWF R) (h : PR p N fb pw R strict X b cap vd vh fc c w L Lw) (x : Int) : Calls Tryz.prog 120 #[.pointer (some ⟨p, 0, none⟩), .int .u64 x] w fun e w' => e = .returned (fpv fb (funAt R x)) ∧ w' = w := by
  obtain ⟨cap0, e0, hc0⟩ := h.pg.sl
  have k0 := h.ox.bx.pc.cell 0 (by omega)
  rw [e0] at k0
  have hlen := hR.len
  have hn0 := wrap_nonneg (x - 4194304)
  have hn9 := wrap_le (x - 4194304)
  unfold funAt
  clear h hR
  obtain ⟨n, hn⟩ : ∃ n, IntKind.u64.wrap (x - 4194304) = n := ⟨_, rfl⟩
  rw [hn] at hn0 hn9 ⊢
  obtain ⟨k, rfl⟩ : ∃ k : Nat, n = k := ⟨n.toNat, by omega⟩
  obtain ⟨m, hm⟩ : ∃ m, R.length = m := ⟨_, rfl⟩
  rw [hm] at k0 hlen hc0 ⊢
  have hlen2 : (m : Int) ≤ 4194304 := by omega
  by_cases h1 : (k : Int) % 16 = 0
  · have h1' : ((k : Int) % 16 == 0) = true := by simpa using h1
    by_cases h2 : (k : Int) / 16 < (m : Int)
    · rw [if_pos ⟨h1, h2⟩]
      have h3 : ((k : Int) / 16).toNat = k / 16 := by omega
      have h4 : (0 : Int) ≤ (k : Int) / 16 := by omega
      clear hm hc0 hlen
      go_enter Tryz.func120, Tryz.ntmps120
      go_wp2
      go_ret
      exact ⟨by rw [h3]; show _ = Ending.returned (.pointer (some ⟨fb, 3 * (k / 16), none⟩)); rw [Nat.mul_comm 3]; rfl, rfl⟩
    · rw [if_neg (fun q => h2 q.2)]
      have h5 : (m : Int) ≤ (k : Int) / 16 := by omega
      have h6 := wrapu_small ((k : Int) / 16) (by omega) (by omega)
      clear hm hc0 hlen h2
      go_enter Tryz.func120, Tryz.ntmps120
      go_wp2
      go_ret
      exact ⟨rfl, rfl⟩
  · rw [if_neg (fun q => h1 q.1)]
    have h1' : ((k : Int) % 16 == 0) = false := by simpa using h1
    clear hm hc0 hlen
    go_enter Tryz.func120, Tryz.ntmps120
    go_wp2
    go_ret
    exact ⟨rfl, rfl⟩

/-- what a call on the calls leaves, the row in its place -/
def PK (p N fb pw : Nat) (R : List RFun) (strict : Bool) (X : PSt) (b cap : Nat) (vd vh : Value) (w : World) (L : Nat → Option Lb) (Lw : Nat → Option Lab) (w' : World) : Prop :=
  ∃ L' fc' c', PR p N fb pw R strict X b cap vd vh fc' c' w' L' Lw ∧ Tn (fun k => L k ≠ none ∨ Lw k ≠ none) w w' ∧ (∀ k, k < w.heap.size → L k = none → Lw k = none → L' k = none ∧ Lw k = none) ∧ (∀ k, L k = some .prog → w'.heap[k]? = w.heap[k]? ∧ L' k = some .prog)
theorem PK.pl {w' : World} (h : PK p N fb pw R strict X b cap vd vh w L Lw w') : PL p N fb pw R strict X w L Lw w' := by
  obtain ⟨L', fc', c', g1, g2, g3, _⟩ := h
  exact ⟨L', Lw, g1.pa, g2, g3⟩
theorem PK.trans {X' : PSt} {M : Nat} {w1 w2 : World} {L1 : Nat → Option Lb} (h : PK p M fb pw R strict X' b cap vd vh w1 L1 Lw w2) (t : Tn (fun k => L k ≠ none ∨ Lw k ≠ none) w w1) (hl : ∀ k, k < w.heap.size → L k = none → Lw k = none → L1 k = none ∧ Lw k = none) (hp : ∀ k, L k = some .prog → w1.heap[k]? = w.heap[k]? ∧ L1 k = some .prog) : PK p M fb pw R strict X' b cap vd vh w L Lw w2 := by
  obtain ⟨L2, fc2, c2, g1, g2, g3, g4⟩ := h
  refine ⟨L2, fc2, c2, g1, t.trans g2 (fun _ _ e => e) (fun i hi e => ?_), fun k hk h1 h2 => ?_, fun k e => ⟨(g4 k (hp k e).2).1.trans (hp k e).1, (g4 k (hp k e).2).2⟩⟩
  · apply Classical.byContradiction
    intro hc
    have h1 : L i = none := Classical.byContradiction (fun q => hc (.inl q))
    have h2 : Lw i = none := Classical.byContradiction (fun q => hc (.inr q))
    obtain ⟨q1, q2⟩ := hl i hi h1 h2
    rcases e with e | e
    · exact e q1
    · exact e q2
  · obtain ⟨q1, q2⟩ := hl k hk h1 h2
    exact g3 k (Nat.lt_of_lt_of_le hk t.size) q1 q2

theorem PR.openK {fs' : List Fr} {K : Nat} {fc' c' : Nat → Value} {w' : World} {L' : Nat → Option Lb} (h : PR p N fb pw R strict X b cap vd vh fc c w L Lw) (hK : N ≤ K) (ho : OX p K b cap fb fs' fc' c' w' L') (hlq : Lq (fun k => k = p) Lb.isOp w L w' L') (hc : ∀ i, i ≠ 12 → i ≠ 13 → c' i = c i) : PK p K fb pw R strict { X with fs := fs' } b cap vd vh w L Lw w' := by
  obtain ⟨g1, g2, g3, g4⟩ := h.openX hK ho hlq hc
  exact ⟨L', fc', c', g1, g2, g3, fun k e => ⟨g4 k e, hlq.old k _ e isOp_prog⟩⟩

/-- the last call's place is set -/
theorem PR.setAt (h : PR p N fb pw R strict X b cap vd vh fc c w L Lw) (hf : X.fs = fs ++ [g]) (n : Nat) : PK p N fb pw R strict { X with fs := fs ++ [{ g with at_ := n }] } b cap vd vh w L Lw (w.setCell ⟨b, fs.length * 8 + 1, none⟩ (.int .i64 (n : Int))) := by
  have ho := h.ox
  rw [hf] at ho
  have hl := ho.len
  simp at hl
  have e1 : fs.length * 8 + 1 = 8 * fs.length + 1 := by omega
  rw [e1]
  have hb := ho.bx.head (8 * fs.length + 1) (by omega) (by omega) (.int .i64 (n : Int))
  refine h.openK (Nat.le_refl N) (fc' := upd fc (8 * fs.length + 1) (.int .i64 (n : Int))) (c' := c) (L' := L) ⟨?_, by have := ho.len; simpa using this, ho.cm, by have := ho.most; simpa using this, by rw [ho.ov]; simp, fun j f e => ?_⟩ ?_ (fun _ _ _ => rfl)
  · have : bankOf (fs ++ [{ g with at_ := n }]) = bankOf (fs ++ [g]) := by
      funext j r
      unfold bankOf
      rcases Nat.lt_or_ge j fs.length with h | h
      · rw [List.getElem?_append_left h, List.getElem?_append_left h]
      · by_cases e : j = fs.length
        · subst e; simp
        · rw [List.getElem?_eq_none (by simp; omega), List.getElem?_eq_none (by simp; omega)]
    rw [this]; exact hb
  · rcases Nat.lt_or_ge j fs.length with hj | hj
    · rw [List.getElem?_append_left hj] at e
      rw [upd_other _ _ (by omega), upd_other _ _ (by omega)]
      exact ho.hd j f (by rw [List.getElem?_append_left hj]; exact e)
    · have hj2 : j = fs.length := by
        have := (List.getElem?_eq_some_iff.1 e).1
        simp at this; omega
      subst hj2
      have ef : f = { g with at_ := n } := by simpa using e.symm
      subst ef
      rw [upd_other _ _ (by omega), upd_same]
      exact ⟨(ho.hd fs.length g (by simp)).1, rfl⟩
  · exact ⟨Tn.set (Tn.refl _ _) _ _ (fun _ => .inr ⟨_, ho.bx.lb, .inr rfl⟩), fun _ _ e _ => e, fun k l e => ⟨by simpa using h.lt k (by rw [e]; simp), .inr e⟩, fun _ _ e => e⟩

/-- the last call's registers, or slots, are cleared -/
theorem PR.clearBank (h : PR p N fb pw R strict X b cap vd vh fc c w L Lw) (hf : X.fs = fs ++ [g]) (r : Bool) :
    Calls Tryz.prog 121 #[.pointer (some ⟨b, bo fs.length r, none⟩), .pointer (some ⟨p, 13, none⟩)] w fun e w' => e = .returned (.tuple #[]) ∧ PK p N fb pw R strict { X with fs := fs ++ [g.setBank r (fun _ => none)] } b cap vd vh w L Lw w' := by
  have ho := h.ox
  rw [hf] at ho
  have hl := ho.len
  simp at hl
  refine (clear_bx ho.bx fs.length r (by omega)).mono ?_
  rintro e w' ⟨rfl, hb⟩
  obtain ⟨L', fc', c', g1, g2, g3⟩ := ho.setLast hb
  exact ⟨rfl, h.openK (Nat.le_refl N) g1 g2 (fun i _ h2 => g3 i h2)⟩
theorem PR.clearLast (h : PR p N fb pw R strict X b cap vd vh fc c w L Lw) (hf : X.fs = fs ++ [g]) :
    Calls Tryz.prog 89 #[.pointer (some ⟨b, fs.length * 8, none⟩), .pointer (some ⟨p, 13, none⟩)] w fun e w' => e = .returned (.tuple #[]) ∧ PK p N fb pw R strict { X with fs := fs ++ [⟨g.fn, g.at_, fun _ => none, fun _ => none⟩] } b cap vd vh w L Lw w' := by
  have ho := h.ox
  rw [hf] at ho
  have hl := ho.len
  simp at hl
  rw [Nat.mul_comm]
  refine (fclear_raw ho.bx fs.length (by omega)).mono ?_
  rintro e w' ⟨rfl, L1, fc1, c1, g1, g2, g3, g4⟩
  have e1 : upd2 (upd2 (bankOf (fs ++ [g])) fs.length false (fun _ => none)) fs.length true (fun _ => none) = bankOf (fs ++ [⟨g.fn, g.at_, fun _ => none, fun _ => none⟩]) := by
    rw [bankOf_set, bankOf_set]; rfl
  rw [e1] at g1
  refine ⟨rfl, h.openK (Nat.le_refl N) (L' := L1) (fc' := fc1) (c' := c1) ⟨g1, by have := ho.len; simpa using this, ho.cm, by have := ho.most; simpa using this, by rw [g3 12 (by omega), ho.ov]; simp, fun j f e => ?_⟩ (g2.op (.inl ho.bx.lb)) (fun i _ h2 => g3 i h2)⟩
  rw [g4 _ (by omega), g4 _ (by omega)]
  rcases Nat.lt_or_ge j fs.length with hj | hj
  · rw [List.getElem?_append_left hj] at e
    exact ho.hd j f (by rw [List.getElem?_append_left hj]; exact e)
  · have hj2 : j = fs.length := by
      have := (List.getElem?_eq_some_iff.1 e).1
      simp at this; omega
    subst hj2
    have ef : f = ⟨g.fn, g.at_, fun _ => none, fun _ => none⟩ := by simpa using e.symm
    subst ef
    exact ho.hd fs.length g (by simp)
/-- a call takes the last one's place -/
theorem PR.beginLast (h : PR p N fb pw R strict X b cap vd vh fc c w L Lw) (hf : X.fs = fs ++ [g]) (hg : g.regs = fun _ => none) (hg2 : g.slots = fun _ => none) (fn : Nat) (a : Option Addr) (ac : Nat) (xs : List Int) (hav : AV w L a xs) (hac : xs.length ≤ ac) (hlen : xs.length ≤ 1048576) (hN : N < 4611686018426339328) :
    Calls Tryz.prog 74 #[.pointer (some ⟨b, fs.length * 8, none⟩), .pointer (some ⟨fb, 3 * fn, none⟩), .slice a xs.length ac, .pointer (some ⟨p, 13, none⟩)] w fun e w' => e = .returned (.tuple #[]) ∧ PK p (N + xs.length) fb pw R strict { X with fs := fs ++ [newFr fn xs] } b cap vd vh w L Lw w' := by
  have ho := h.ox
  rw [hf] at ho
  have hl := ho.len
  simp at hl
  rw [Nat.mul_comm]
  have e0 : bankOf (fs ++ [g]) fs.length false = fun _ => none := by rw [bankOf_last]; exact hg
  refine (begin_raw ho.bx fs.length (by omega) e0 (some ⟨fb, 3 * fn, none⟩) a ac xs hav hac hlen hN).mono ?_
  rintro e w' ⟨rfl, L1, fc1, c1, g1, g2, g3, g4, g5, g6⟩
  have e1 : upd2 (bankOf (fs ++ [g])) fs.length false (fun i => xs[i]?) = bankOf (fs ++ [newFr fn xs]) := by
    rw [bankOf_set]
    funext j r
    unfold bankOf
    rcases Nat.lt_or_ge j fs.length with h | h
    · rw [List.getElem?_append_left h, List.getElem?_append_left h]
    · by_cases e : j = fs.length
      · subst e; cases r <;> simp [Fr.setBank, newFr, hg2]
      · rw [List.getElem?_eq_none (by simp; omega), List.getElem?_eq_none (by simp; omega)]
  rw [e1] at g1
  refine ⟨rfl, h.openK (by omega) (L' := L1) (fc' := fc1) (c' := c1) ⟨g1, by have := ho.len; simpa using this, ho.cm, by have := ho.most; simpa using this, by rw [g3 12 (by omega), ho.ov]; simp, fun j f e => ?_⟩ (g2.op (.inl ho.bx.lb)) (fun i _ h2 => g3 i h2)⟩
  rcases Nat.lt_or_ge j fs.length with hj | hj
  · rw [List.getElem?_append_left hj] at e
    rw [g4 _ (by omega) (by omega) (by omega), g4 _ (by omega) (by omega) (by omega)]
    exact ho.hd j f (by rw [List.getElem?_append_left hj]; exact e)
  · have hj2 : j = fs.length := by
      have := (List.getElem?_eq_some_iff.1 e).1
      simp at this; omega
    subst hj2
    have ef : f = newFr fn xs := by simpa using e.symm
    subst ef
    exact ⟨g5, g6⟩
/-- one more call -/
theorem PR.pushes (h : PR p N fb pw R strict X b cap vd vh fc c w L Lw) (hm : X.fs.length + 1 ≤ 1048576) (fn : Nat) (a : Option Addr) (ac : Nat) (xs : List Int) (hav : AV w L a xs) (hac : xs.length ≤ ac) (hlen : xs.length ≤ 1048576) (hN : N < 4611686018426339328) :
    Calls Tryz.prog 45 #[.pointer (some ⟨p, 0, none⟩), .pointer (some ⟨fb, 3 * fn, none⟩), .slice a xs.length ac] w fun e w' => e = .returned (.tuple #[]) ∧ PL p (N + xs.length) fb pw R strict { X with fs := X.fs ++ [newFr fn xs] } w L Lw w' := by
  refine (push_raw h.ox hm fn a ac xs hav hac hlen hN).mono ?_
  rintro e w' ⟨rfl, b', cap', L', fc', c', g1, g2, g3⟩
  exact ⟨rfl, h.open_ (by omega) g1 g2 g3⟩
end
end Go.Proofs.YtoidddfpekbliaaGreat
namespace Go.Proofs.YtoidddfpekbliaaGreat
set_option linter.unusedSimpArgs false
set_option linter.unusedVariables false
open Go.RowKit
attribute [local go_sem ↓] Go.wp_at_zero Go.wp_at_succ

def Fr.after (g : Fr) (strict : Bool) : Fr := { g with at_ := g.at_ + 1, regs := cond strict (fun _ => none) g.regs }

section
variable {p N fb pw : Nat} {R : List RFun} {strict : Bool} {X : PSt} {b cap : Nat} {vd vh : Value} {fc c : Nat → Value} {w : World} {L : Nat → Option Lb} {Lw : Nat → Option Lab} {fs : List Fr} {g : Fr}

/-- words that are handed over, which lie in no block of the process or its world -/
structure AW (w : World) (L : Nat → Option Lb) (Lw : Nat → Option Lab) (ga o : Nat) (xs : List Int) : Prop where
  lt : ga < w.heap.size
  l1 : L ga = none
  l2 : Lw ga = none
  at' : ∀ i v, xs[i]? = some v → w.cell? ⟨ga, o + i, none⟩ = some (.int .u64 v)
  rg : ∀ v ∈ xs, 0 ≤ v ∧ v ≤ 18446744073709551615
theorem AW.av {ga o : Nat} {xs : List Int} (h : AW w L Lw ga o xs) : AV w L (some ⟨ga, o, none⟩) xs := ⟨.inr ⟨ga, o, rfl, h.lt, h.l1, h.at'⟩, h.rg⟩
theorem AW.kept {w' : World} {L' : Nat → Option Lb} {Lw' : Nat → Option Lab} {ga o : Nat} {xs : List Int} (h : AW w L Lw ga o xs) (t : Tn (fun k => L k ≠ none ∨ Lw k ≠ none) w w') (hl : ∀ k, k < w.heap.size → L k = none → Lw k = none → L' k = none ∧ Lw' k = none) : AW w' L' Lw' ga o xs := by
  obtain ⟨q1, q2⟩ := hl ga h.lt h.l1 h.l2
  refine ⟨Nat.lt_of_lt_of_le h.lt t.size, q1, q2, fun i v hv => ?_, h.rg⟩
  rw [t.cell h.lt (by rintro (q | q); exact q h.l1; exact q h.l2)]
  exact h.at' i v hv
theorem AW.tail {ga o : Nat} {x : Int} {xs : List Int} (h : AW w L Lw ga o (x :: xs)) : AW w L Lw ga (o + 1) xs :=
  ⟨h.lt, h.l1, h.l2, fun i v hv => by have := h.at' (i + 1) v (by simpa using hv); rw [show o + 1 + i = o + (i + 1) by omega]; exact this, fun v hv => h.rg v (List.mem_cons_of_mem _ hv)⟩

/-- what a call's end does, when it doesn't take this one's place: the last one goes on behind it, then one more is opened -/
theorem call_push (h : PR p N fb pw R strict X b cap vd vh fc c w L Lw) (hf : X.fs = fs ++ [g]) (hm : X.fs.length + 1 ≤ 1048576) (fn ga o ac : Nat) (xs : List Int) (hav : AW w L Lw ga o xs) (hac : xs.length ≤ ac) (hlen : xs.length ≤ 1048576) (hN : N < 4611686018426339328) :
    (∀ w0, Tn No w w0 → PK p N fb pw R strict { X with fs := fs ++ [{ g with at_ := g.at_ + 1 }] } b cap vd vh w L Lw (w0.setCell ⟨b, fs.length * 8 + 1, none⟩ (.int .i64 ((g.at_ : Int) + 1)))) ∧
    (∀ w1, PK p N fb pw R strict { X with fs := fs ++ [{ g with at_ := g.at_ + 1 }] } b cap vd vh w L Lw w1 → ∀ w2, Tn No w1 w2 → Calls Tryz.prog 121 #[.pointer (some ⟨b, fs.length * 8 + 2, none⟩), .pointer (some ⟨p, 13, none⟩)] w2 fun e w' => e = .returned (.tuple #[]) ∧ PK p N fb pw R strict { X with fs := fs ++ [g.after true] } b cap vd vh w L Lw w') ∧
    (∀ g' w1, PK p N fb pw R strict { X with fs := fs ++ [g'] } b cap vd vh w L Lw w1 → Calls Tryz.prog 45 #[.pointer (some ⟨p, 0, none⟩), .pointer (some ⟨fb, 3 * fn, none⟩), .slice (some ⟨ga, o, none⟩) xs.length ac] w1 fun e w' => e = .returned (.tuple #[]) ∧ PL p (N + xs.length) fb pw R strict { X with fs := fs ++ [g'] ++ [newFr fn xs] } w L Lw w') := by
  refine ⟨fun w0 t => ?_, fun w1 hpk w2 t => ?_, fun g' w1 hpk => ?_⟩
  · have := (h.no t).setAt hf (g.at_ + 1)
    rw [show ((g.at_ + 1 : Nat) : Int) = (g.at_ : Int) + 1 by omega] at this
    exact this.trans t.any (fun k _ h1 h2 => ⟨h1, h2⟩) (fun k e => ⟨t.block k (h.lt k (by rw [e]; simp)) (fun e => e), e⟩)
  · obtain ⟨L1, fc1, c1, g1, g2, g3, g4⟩ := hpk
    have := (g1.no t).clearBank (fs := fs) (g := { g with at_ := g.at_ + 1 }) rfl false
    have e2 : bo fs.length false = fs.length * 8 + 2 := by unfold bo; rw [Nat.mul_comm]; rfl
    rw [e2] at this
    exact this.mono (fun e w' z => ⟨z.1, z.2.trans (g2.thenNo t) g3 (fun k e => ⟨(t.block k (g1.lt k (by rw [(g4 k e).2]; simp)) (fun e => e)).trans (g4 k e).1, (g4 k e).2⟩)⟩)
  · obtain ⟨L1, fc1, c1, g1, g2, g3, g4⟩ := hpk
    have hav1 := hav.kept g2 g3
    refine (g1.pushes (by rw [hf] at hm; simpa using hm) fn (some ⟨ga, o, none⟩) ac xs hav1.av hac hlen hN).mono (fun e w' z => ⟨z.1, z.2.trans g2 g3⟩)

/-- what it does when it takes this one's place -/
theorem call_tail (h : PR p N fb pw R strict X b cap vd vh fc c w L Lw) (hf : X.fs = fs ++ [g]) (fn ga o ac : Nat) (xs : List Int) (hav : AW w L Lw ga o xs) (hac : xs.length ≤ ac) (hlen : xs.length ≤ 1048576) (hN : N < 4611686018426339328) :
    (∀ w1, Tn No w w1 → Calls Tryz.prog 89 #[.pointer (some ⟨b, fs.length * 8, none⟩), .pointer (some ⟨p, 13, none⟩)] w1 fun e w' => e = .returned (.tuple #[]) ∧ PK p N fb pw R strict { X with fs := fs ++ [⟨g.fn, g.at_, fun _ => none, fun _ => none⟩] } b cap vd vh w L Lw w') ∧
    (∀ w1, PK p N fb pw R strict { X with fs := fs ++ [⟨g.fn, g.at_, fun _ => none, fun _ => none⟩] } b cap vd vh w L Lw w1 → Calls Tryz.prog 74 #[.pointer (some ⟨b, fs.length * 8, none⟩), .pointer (some ⟨fb, 3 * fn, none⟩), .slice (some ⟨ga, o, none⟩) xs.length ac, .pointer (some ⟨p, 13, none⟩)] w1 fun e w' => e = .returned (.tuple #[]) ∧ PL p (N + xs.length) fb pw R strict { X with fs := fs ++ [newFr fn xs] } w L Lw w') := by
  refine ⟨fun w1 t => ?_, fun w1 hpk => ?_⟩
  · exact ((h.no t).clearLast hf).mono (fun e w' z => ⟨z.1, z.2.trans t.any (fun k _ h1 h2 => ⟨h1, h2⟩) (fun k e => ⟨t.block k (h.lt k (by rw [e]; simp)) (fun e => e), e⟩)⟩)
  · obtain ⟨L1, fc1, c1, g1, g2, g3, g4⟩ := hpk
    have hav1 := hav.kept g2 g3
    exact (g1.beginLast (fs := fs) rfl rfl rfl fn (some ⟨ga, o, none⟩) ac xs hav1.av hac hlen hN).mono (fun e w' z => ⟨z.1, z.2.pl.trans g2 g3⟩)
end
end Go.Proofs.YtoidddfpekbliaaGreat
