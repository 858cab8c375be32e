/-
  word: Run.
-/
import Derived.Test.YtoidddfpekbliaaGreatWJ32
namespace Go.Proofs.YtoidddfpekbliaaGreat
set_option linter.unusedSimpArgs false
set_option linter.unusedVariables false
open Go.RowKit
attribute [local go_sem ↓] Go.wp_at_zero Go.wp_at_succ

section
variable {p N fb pw : Nat} {R : List RFun} {strict : Bool} {B : Nat} {X : PSt} {b cap : Nat} {vd vh : Value} {fc c : Nat → Value} {w : World} {L : Nat → Option Lb} {Lw : Nat → Option Lab} {fs : List Fr} {g : Fr} {rf : RFun} {q : RCode}

theorem back_steps (R : List RFun) (X : PSt) (x : Int) : (X.back R x).steps = X.steps := by
  unfold PSt.back
  split
  · rfl
  · split <;> rfl
theorem stepF_steps (hR : RWF R) (hp : PR p N fb pw R strict X b cap vd vh fc c w L Lw) (hf : X.fs = fs ++ [g]) (hg : R[g.fn]? = some rf) (hq : rf.code[g.at_]? = some q) {X' : PSt} (hs : stepF R strict X fs g q = some X') : X'.steps = X.steps := by
  have hwf := (hR.fn g.fn rf hg).2.2.2 g.at_ q hq
  unfold stepF at hs
  split at hs
  · unfold stepQ at hs
    by_cases e20 : q.kind = 20
    · rw [if_pos e20] at hs; cases hs; rfl
    rw [if_neg e20] at hs
    by_cases e21 : q.kind = 21
    · rw [if_pos e21] at hs; cases hs; rfl
    rw [if_neg e21] at hs
    by_cases e22 : q.kind = 22
    · rw [if_pos e22] at hs
      split at hs
      · cases hs; rfl
      · cases hs
    rw [if_neg e22] at hs
    by_cases e23 : q.kind = 23
    · rw [if_pos e23] at hs
      cases et : target R (xsOf g q 0) (q.count - 1) with
      | none => rw [et] at hs; cases hs
      | some fn =>
        rw [et, Option.bind_some] at hs
        split at hs
        · cases hs; rfl
        · cases hs
    rw [if_neg e23] at hs
    by_cases e24 : q.kind = 24
    · rw [if_pos e24] at hs; cases hs; rfl
    rw [if_neg e24] at hs
    by_cases e25 : q.kind = 25
    · rw [if_pos e25] at hs
      cases et : target R (xsOf g q 0) (q.count - 1) with
      | none => rw [et] at hs; cases hs
      | some fn => rw [et] at hs; cases hs; rfl
    rw [if_neg e25] at hs
    by_cases e26 : q.kind = 26
    · rw [if_pos e26] at hs
      simp only [Option.some.injEq] at hs
      rw [← hs]
      exact back_steps R X _
    rw [if_neg e26] at hs
    by_cases e18 : q.kind = 18
    · rw [if_pos e18] at hs
      cases eS : X.M.store (IntKind.u64.wrap (xsOf g q 0 + q.imm)) q.how (xsOf g q 1) with
      | none => rw [eS] at hs; cases hs
      | some M' => rw [eS] at hs; cases hs; rfl
    rw [if_neg e18] at hs
    by_cases e32 : q.kind = 32
    · rw [if_pos e32] at hs; cases hs; rfl
    rw [if_neg e32] at hs
    obtain ⟨kp, _, _⟩ := val_keeps (xs := xsOf g q) hp hf ⟨hwf.im.1, hwf.im.2⟩ (fun i _ => xsOf_ok hp hf q i)
    split at hs
    · simp only [Option.some.injEq] at hs
      rw [← hs]
      exact kp.steps
    · cases hs
  · cases hs
theorem step_steps (hR : RWF R) {K : Nat} {Y : PSt} {w2 : World} (h : PL p K fb pw R strict Y w L Lw w2) (hok : POk R B Y) (hst : Y.status = 0) : ∀ X', Y.step R strict = some X' → X'.steps = Y.steps := by
  obtain ⟨L', Lw', ⟨b, cap, vd, vh, fc, c, hp⟩, _, _⟩ := h
  have hne := hok.op hst
  obtain ⟨fs, g, hf⟩ : ∃ fs g, Y.fs = fs ++ [g] := ⟨Y.fs.dropLast, Y.fs.getLast hne, (List.dropLast_concat_getLast hne).symm⟩
  obtain ⟨rf, hg, hat⟩ := hok.fok g (by rw [hf]; simp)
  obtain ⟨q, hq⟩ : ∃ q, rf.code[g.at_]? = some q := ⟨_, List.getElem?_eq_getElem hat⟩
  have es : Y.step R strict = stepF R strict Y fs g q := by
    unfold PSt.step
    rw [hf, List.getLast?_concat, List.dropLast_concat]
    simp only [hg, Option.bind_some, hq]
  rw [es]
  exact fun X' hs => stepF_steps hR hp hf hg hq hs

/-- a process after j steps -/
structure RJ (p N fb pw : Nat) (R : List RFun) (strict : Bool) (B : Nat) (X : PSt) (w : World) (L : Nat → Option Lb) (Lw : Nat → Option Lab) (j : Nat) (wr : World) : Prop where
  pl : PL p (N + j * (2 * B + 8)) fb pw R strict (PSt.run R strict j X) w L Lw wr
  ok : POk R B (PSt.run R strict j X)
  st : (PSt.run R strict j X).steps ≤ X.steps + j

set_option maxHeartbeats 4000000 in
set_option maxRecDepth 100000 in
theorem run_raw (hR : RWF R) (hRK : RKd R) (hp : PA p N fb pw R strict X w L Lw) (hok : POk R B X) (hB : B ≤ 1099511627776) (k : Nat) (hk : k ≤ 1099511627776) (hN : N + k * (2 * B + 8) ≤ 545460846592) (hS : X.steps ≤ 1099511627776) :
    Calls Tryz.prog 18 #[.pointer (some ⟨p, 0, none⟩), .int .i64 (k : Int)] w fun e w' => e = .returned (.int .i64 (PSt.run R strict k X).status) ∧ RJ p N fb pw R strict B X w L Lw k w' := by
  have r0 : RJ p N fb pw R strict B X w L Lw 0 w := ⟨by rw [Nat.zero_mul, Nat.add_zero]; exact hp.pl, hok, Nat.le_refl _⟩
  have HSTEP : Hid (∀ j wr, j < k → (PSt.run R strict j X).status = 0 → RJ p N fb pw R strict B X w L Lw j wr → Calls Tryz.prog 48 #[.pointer (some ⟨p, 0, none⟩)] wr fun e w2 => ∃ o : Bool, e = .returned (.bool o) ∧ p < w2.heap.size ∧ ((o = true ∧ ∃ s : Nat, s ≤ 2199023255552 ∧ w2.cell? ⟨p, 17, none⟩ = some (.int .i64 (s : Int)) ∧ w2.frozen? ⟨p, 17, none⟩ = false ∧ RJ p N fb pw R strict B X w L Lw (j + 1) (w2.setCell ⟨p, 17, none⟩ (.int .i64 ((s : Int) + 1)))) ∨ (o = false ∧ (∃ u, w2.cell? ⟨p, 14, none⟩ = some u) ∧ w2.frozen? ⟨p, 14, none⟩ = false ∧ RJ p N fb pw R strict B X w L Lw (j + 1) (w2.setCell ⟨p, 14, none⟩ (.int .i64 2))))) := hid (fun j wr hj hst hr => by
    have hle : j * (2 * B + 8) ≤ k * (2 * B + 8) := Nat.mul_le_mul_right _ (by omega)
    have hst2 := step_steps hR hr.pl hr.ok hst
    have ej : N + j * (2 * B + 8) + 2 * B + 8 = N + (j + 1) * (2 * B + 8) := by rw [Nat.add_mul j 1, Nat.one_mul]; omega
    have hrs := hr.st
    have hn := PSt.run_succ R strict j X hst
    refine (hr.pl.steps hR hRK hr.ok hB hst (by omega)).mono ?_
    rintro e w2 ⟨rfl, hpl, hpo⟩
    rw [ej] at hpl
    cases ho : (PSt.run R strict j X).step R strict with
    | some X' =>
      rw [ho] at hpl
      have e1 : PSt.run R strict (j + 1) X = { X' with steps := X'.steps + 1 } := by rw [hn]; unfold PSt.next; rw [ho]
      have es := hst2 X' ho
      obtain ⟨⟨z1, z2, z3⟩, z4⟩ := hpl.count
      refine ⟨true, rfl, z3, .inl ⟨rfl, X'.steps, by omega, z1, z2, ?_⟩⟩
      exact ⟨by rw [e1]; exact z4, by rw [e1]; exact (hpo X' ho).steps _, by rw [e1]; show X'.steps + 1 ≤ _; omega⟩
    | none =>
      rw [ho] at hpl
      have e1 : PSt.run R strict (j + 1) X = { PSt.run R strict j X with status := 2 } := by rw [hn]; unfold PSt.next; rw [ho]
      obtain ⟨⟨z1, z2, z3⟩, z4⟩ := hpl.stick
      refine ⟨false, rfl, z3, .inr ⟨rfl, ⟨_, z1⟩, z2, ?_⟩⟩
      exact ⟨by rw [e1]; exact z4, by rw [e1]; exact hr.ok.stuck, by rw [e1]; show (PSt.run R strict j X).steps ≤ _; omega⟩)
  have HFIN : Hid (∀ j wr, j ≤ k → RJ p N fb pw R strict B X w L Lw j wr → (j = k ∨ (PSt.run R strict j X).status ≠ 0) → ∀ st, (PSt.run R strict j X).status = st → (Ending.returned (.int .i64 st) = .returned (.int .i64 (PSt.run R strict k X).status)) ∧ RJ p N fb pw R strict B X w L Lw k wr) := hid (fun j wr hj hr hd st hst => by
    have hle : j * (2 * B + 8) ≤ k * (2 * B + 8) := Nat.mul_le_mul_right _ hj
    have e : PSt.run R strict k X = PSt.run R strict j X := by
      rcases hd with e | e
      · rw [e]
      · obtain ⟨m, rfl⟩ : ∃ m, k = j + m := ⟨k - j, by omega⟩
        rw [PSt.run_add, PSt.run_over _ _ _ e]
    refine ⟨by rw [e, hst], by rw [e]; exact hr.pl.mono (by omega), by rw [e]; exact hr.ok, by rw [e]; have := hr.st; omega⟩)
  obtain ⟨c14, plt, b0, cap0, c12⟩ := r0.pl.cells
  have hfl : X.status = 0 → X.fs.length ≠ 0 := fun e e2 => hok.op e (List.length_eq_zero_iff.1 e2)
  have HR0 := hid r0
  change w.cell? ⟨p, 14, none⟩ = some (.int .i64 X.status) at c14
  change w.cell? ⟨p, 12, none⟩ = some (.slice (some ⟨b0, 0, none⟩) X.fs.length cap0) at c12
  obtain ⟨st0, hst0⟩ : ∃ st0, X.status = st0 := ⟨_, rfl⟩
  obtain ⟨fl, hfl2⟩ : ∃ fl, X.fs.length = fl := ⟨_, rfl⟩
  rw [hst0] at c14 hfl
  rw [hfl2] at c12 hfl
  have hkI : (k : Int) ≤ 1099511627776 := by omega
  clear hp hok r0 hR hRK hN hS hst0 hfl2
  have two : (st0 == 0) = false ∨ (st0 = 0 ∧ ((fl : Int) == 0) = false) := by
    by_cases e : st0 = 0
    · have := hfl e
      exact .inr ⟨e, by simp; omega⟩
    · exact .inl (by simpa using e)
  clear hfl
  rcases two with d0 | ⟨rfl, d0⟩
  all_goals
    go_enter Tryz.func18, Tryz.ntmps18
    go_wp2_with fail
    clear c12 c14 d0
    go_loopw [1] (fun i wr => ∃ j : Nat, j ≤ k ∧ i = .int .i64 ((k : Int) - (j : Int)) ∧ RJ p N fb pw R strict B X w L Lw j wr) (fun i _ => (intOf i).toNat)
    case atStart => exact ⟨0, by omega, by simp, HR0.out⟩
    case round =>
      obtain ⟨j, hj, rfl, hr⟩ := hrel
      obtain ⟨y14, ylt, -, -, -⟩ := hr.pl.cells
      obtain ⟨st, hst⟩ : ∃ st, (PSt.run R strict j X).status = st := ⟨_, rfl⟩
      rw [hst] at y14
      have HST := hid hst
      have HRJ := hid hr
      obtain ⟨m, hm⟩ : ∃ m : Int, (k : Int) - (j : Int) = m := ⟨_, rfl⟩
      have HM := hid hm
      rw [hm]
      have m0 : 0 ≤ m := by omega
      have m9 : m ≤ 1099511627776 := by omega
      clear hr hst hm
      by_cases h0 : m = 0
      · subst h0
        go_wp2
        go_ret
        exact HFIN.out j wr hj HRJ.out (.inl (by have := HM.out; omega)) st HST.out
      · have hpos : 0 < m := by omega
        by_cases hs : st = 0
        · subst hs
          have HCS := hid (HSTEP.out j wr (by have := HM.out; omega) HST.out HRJ.out)
          go_wp2_with (go_at_call 48; refine HCS.out.mono ?_; rintro e w2 ⟨o, rfl, plt2, ⟨rfl, s, hs1, z1, z2, hrj⟩ | ⟨rfl, ⟨u, z1⟩, z2, hrj⟩⟩ <;> (have HRJ2 := hid hrj; clear hrj))
          all_goals
            go_roundw
            case rel => exact ⟨j + 1, by have := HM.out; omega, by have := HM.out; simp; omega, HRJ2.out⟩
            case measure => simp [intOf]; omega
        · have hs2 : (st == 0) = false := by simpa using hs
          go_wp2
          go_ret
          exact HFIN.out j wr hj HRJ.out (.inr (by rw [HST.out]; exact hs)) st HST.out
end
end Go.Proofs.YtoidddfpekbliaaGreat
namespace Go.Proofs.YtoidddfpekbliaaGreat
set_option linter.unusedSimpArgs false
set_option linter.unusedVariables false
open Go.RowKit
attribute [local go_sem ↓] Go.wp_at_zero Go.wp_at_succ

section
variable {p N fb pw : Nat} {R : List RFun} {strict : Bool} {X : PSt} {w : World} {L : Nat → Option Lb} {Lw : Nat → Option Lab}
set_option maxRecDepth 100000 in
theorem code_raw (h : PA p N fb pw R strict X w L Lw) : Calls Tryz.prog 28 #[.pointer (some ⟨p, 0, none⟩)] w fun e w' => e = .returned (.int .i64 X.code) ∧ w' = w := by
  obtain ⟨b, cap, vd, vh, fc, c, g1⟩ := h
  have k := g1.ox.bx.pc.cell 15 (by omega)
  rw [g1.c15] at k
  have plt := g1.ox.bx.pc.lt
  obtain ⟨v, hv⟩ : ∃ v, X.code = v := ⟨_, rfl⟩
  rw [hv] at k ⊢
  clear g1 hv
  go_enter Tryz.func28, Tryz.ntmps28
  go_wp2
  go_ret
  exact ⟨rfl, rfl⟩
set_option maxRecDepth 100000 in
theorem steps_raw (h : PA p N fb pw R strict X w L Lw) : Calls Tryz.prog 29 #[.pointer (some ⟨p, 0, none⟩)] w fun e w' => e = .returned (.int .i64 (X.steps : Int)) ∧ w' = w := by
  obtain ⟨b, cap, vd, vh, fc, c, g1⟩ := h
  have k := g1.ox.bx.pc.cell 17 (by omega)
  rw [g1.c17] at k
  have plt := g1.ox.bx.pc.lt
  obtain ⟨v, hv⟩ : ∃ v : Int, (X.steps : Int) = v := ⟨_, rfl⟩
  rw [hv] at k ⊢
  clear g1 hv
  go_enter Tryz.func29, Tryz.ntmps29
  go_wp2
  go_ret
  exact ⟨rfl, rfl⟩
end
end Go.Proofs.YtoidddfpekbliaaGreat
namespace Go.Proofs.YtoidddfpekbliaaGreat
set_option linter.unusedSimpArgs false
set_option linter.unusedVariables false
open Go.RowKit
attribute [local go_sem ↓] Go.wp_at_zero Go.wp_at_succ

theorem page_info : (Tryz.prog.info? 228).map (fun i => (i.zero, i.size, i.bytes)) = some (some (.pointer none), 1, 8) := by kernel_rfl
theorem made_nil (k i : Nat) (h : i < k) : (madeCells #[Value.pointer none] k)[i]? = some (.pointer none) := by
  simp [madeCells, h, Nat.mod_one]

theorem make_near (k : Nat) (hk : k ≤ 65536) : ∀ W : World, (Instr.makeSlice 103 (.int .u64 (k : Int)) (.int .u64 (k : Int))).run Tryz.prog W = .ok (.slice (some ⟨W.heap.size, 0, none⟩) k k) (W.alloc (.cells (madeCells #[.pointer none] k) 228)) := by
  obtain ⟨i, hi, z0, z1, z2⟩ := info_parts page_info
  intro W
  have h := run_make (P := Tryz.prog) W 103 228 i (.pointer none) Tryz.underlying103 hi z0 .u64 .u64 (k : Int) (k : Int) (by omega) (by omega) (by rw [z2]; omega) (by omega)
  rw [z1] at h
  have hc : (Value.pointer none).cells = #[.pointer none] := rfl
  rw [hc] at h
  simpa using h

theorem two_first (w : World) (A : Array Value) (t : TypeId) (B : Obj) (v0 v1 v2 v3 : Value) (h0 : A[0]? = some v0) (h1 : A[1]? = some v1) (h2 : A[2]? = some v2) (h3 : A[3]? = some v3) :
    ((w.alloc (.cells A t)).alloc B).cell? ⟨w.heap.size, 0, none⟩ = some v0 ∧ ((w.alloc (.cells A t)).alloc B).cell? ⟨w.heap.size, 1, none⟩ = some v1 ∧ ((w.alloc (.cells A t)).alloc B).cell? ⟨w.heap.size, 2, none⟩ = some v2 ∧ ((w.alloc (.cells A t)).alloc B).cell? ⟨w.heap.size, 3, none⟩ = some v3 := by
  have e : ∀ i, ((w.alloc (.cells A t)).alloc B).cell? ⟨w.heap.size, i, none⟩ = A[i]? := fun i => by
    rw [Tn.cell (F := No) (a := w.alloc (.cells A t)) ((Tn.refl No _).alloc _) (by simp) (fun e => e)]
    exact World.cell?_alloc_mark _ _ _ _ i
  exact ⟨by rw [e, h0], by rw [e, h1], by rw [e, h2], by rw [e, h3]⟩

set_option maxHeartbeats 1000000 in
set_option maxRecDepth 100000 in
theorem newArea_raw (base size : Nat) (w : World) (hs : size ≤ 1099511627776) :
    Calls Tryz.prog 43 #[.int .u64 (base : Int), .int .u64 (size : Int)] w fun e w' => ∃ nb, e = .returned (.agg #[.int .u64 (base : Int), .int .u64 (size : Int), .slice (some ⟨nb, 0, none⟩) (nears size) (nears size), .map none]) ∧ CB w' nb (nears size) (fun _ => .pointer none) ∧ w.heap.size ≤ nb ∧ Tn No w w' := by
  obtain ⟨k, hk⟩ : ∃ k, nears size = k := ⟨_, rfl⟩
  have hk2 : k ≤ 65536 := by rw [← hk]; exact Nat.min_le_right _ _
  have hmk := make_near k hk2
  have hs0 : 0 ≤ (size : Int) := by omega
  have hs1 : (size : Int) ≤ 1099511627776 := by omega
  have hq : ((size : Int) + 1024 - 1) / 1024 = (((size + 1023) / 1024 : Nat) : Int) := by omega
  obtain ⟨q, hqq⟩ : ∃ q, (size + 1023) / 1024 = q := ⟨_, rfl⟩
  have hq3 : (size + 1023) / 1024 ≤ 1099511627776 := by omega
  rw [hqq] at hq hq3
  have hq0 : 0 ≤ (q : Int) := by omega
  have hq4 : (q : Int) ≤ 1099511627776 := by omega
  have hkq : (q ≤ 65536 ∧ k = q) ∨ (65536 < q ∧ k = 65536) := by
    unfold nears at hk
    rw [hqq] at hk
    omega
  have HCB : Hid (∀ o, CB ((w.alloc o).alloc (.cells (madeCells #[.pointer none] k) 228)) (w.heap.size + 1) k (fun _ => .pointer none)) := hid (fun o => by
    have h := CB.new (w.alloc o) (madeCells #[.pointer none] k) 228
    have e : (w.alloc o).heap.size = w.heap.size + 1 := by simp
    rw [e, size_madeCells] at h
    exact h.congr (fun i hi => by rw [made_nil k i hi]; rfl))
  rw [hk]
  clear hk hqq
  have hmin : min (q : Int) 65536 = (k : Int) := by omega
  clear hkq
  go_enter Tryz.func43, Tryz.ntmps43
  go_wp2_with fail
  obtain ⟨e0, e1, e2, e3⟩ := two_first w #[.int .u64 (base : Int), .int .u64 (size : Int), .slice (some ⟨w.heap.size + 1, 0, none⟩) k k, .map none] 106 (.cells (madeCells #[.pointer none] k) 228) _ _ _ _ rfl rfl rfl rfl
  refine bodyPost_ret (v := .agg #[.int .u64 (base : Int), .int .u64 (size : Int), .slice (some ⟨w.heap.size + 1, 0, none⟩) k k, .map none]) (by simp [results, Tryz.results43, go_sem, e0, e1, e2, e3]) rfl ?_
  exact ⟨w.heap.size + 1, rfl, HCB.out _, by omega, ((Tn.refl No w).alloc _).alloc _⟩
end Go.Proofs.YtoidddfpekbliaaGreat
namespace Go.Proofs.YtoidddfpekbliaaGreat
set_option linter.unusedSimpArgs false
set_option linter.unusedVariables false
open Go.RowKit
attribute [local go_sem ↓] Go.wp_at_zero Go.wp_at_succ

/-- the row in its first place -/
theorem bx_first {p N : Nat} {c : Nat → Value} {w w' : World} {L : Nat → Option Lb} {cap' : Nat} (hp : CB w p 18 c) (hL : L p = some .own) (hlt : ∀ k, L k ≠ none → k < w.heap.size) (h13 : c 13 = .slice none 0 0) (t : Tn No w w') (hs : w'.heap.size = w.heap.size + 2) (hcb : CB w' (w.heap.size + 1) (8 * cap') (fun i => if i < 8 * 0 then c i else fr0 i)) :
    BX p N (w.heap.size + 1) cap' (bankOf []) (fun i => if i < 8 * 0 then c i else fr0 i) c w' (upd L (w.heap.size + 1) (some .row)) ∧ Lq (fun k => k = p) Lb.isOp w L w' (upd L (w.heap.size + 1) (some .row)) := by
  have hk : ∀ k l, L k = some l → w'.heap[k]? = w.heap[k]? := fun k l e => t.block k (hlt k (by rw [e]; simp)) (fun e => e)
  have hLn : L (w.heap.size + 1) = none := labNone hlt (by omega)
  have up : ∀ k l, L k = some l → upd L (w.heap.size + 1) (some .row) k = some l := fun k l e => by rw [upd_other _ _ (by rintro rfl; rw [hLn] at e; cases e)]; exact e
  refine ⟨⟨hp.kept (hk p _ hL), up _ _ hL, upd_same _ _ _, hcb, ⟨[], ?_⟩, fun j r hj => ?_, fun k hk' => ?_⟩, ⟨t.any, fun k l e _ => up k l e, fun k l e => ?_, fun k hk' e => by rw [upd_other _ _ (by omega)]; exact e⟩⟩
  · rw [h13]
    exact ⟨RW.nil _ _, (fun g hg => by cases hg), (fun i g hg => by cases hg), Nat.zero_le _⟩
  · have e : bankOf [] j r = fun _ => none := by unfold bankOf; rfl
    rw [e]
    obtain ⟨q1, q2, q3⟩ := fr0_bank j r
    exact ⟨none, none, none, fun _ => none, BK.empty _ _ _ _ _, bcs_of (by rw [if_neg (by omega)]; exact q1) (by rw [if_neg (by omega)]; exact q2) (by rw [if_neg (by omega)]; exact q3)⟩
  · by_cases e : k = w.heap.size + 1
    · omega
    · rw [upd_other _ _ e] at hk'
      have := hlt k hk'; omega
  · by_cases e' : k = w.heap.size + 1
    · subst e'; rw [upd_same] at e; cases e; exact ⟨by omega, .inl (.inr rfl)⟩
    · rw [upd_other _ _ e'] at e
      exact ⟨by have := hlt k (by rw [e]; simp); omega, .inr e⟩

section
variable {p N fb : Nat} {c : Nat → Value} {w : World} {L : Nat → Option Lb}
set_option maxHeartbeats 4000000 in
set_option maxRecDepth 100000 in
theorem push_first (hp : CB w p 18 c) (hL : L p = some .own) (hlt : ∀ k, L k ≠ none → k < w.heap.size) (h12 : c 12 = .slice none 0 0) (h13 : c 13 = .slice none 0 0) (fn : Nat) (hN : N < 4611686018426339328) :
    Calls Tryz.prog 45 #[.pointer (some ⟨p, 0, none⟩), .pointer (some ⟨fb, 3 * fn, none⟩), .slice none 0 0] w fun e w' => e = .returned (.tuple #[]) ∧ PU p N fb [newFr fn []] c w L w' := by
  have k12 := hp.cell 12 (by omega)
  rw [h12] at k12
  have z12 := hp.froz 12
  have plt := hp.lt
  have HG0 : ∀ n : Nat, 0 = n → Hid (∀ q, ∃ cap', n + 1 ≤ cap' ∧ ∃ w1, (Builtin.append_ #[109, 109] 109 #[.slice none n n, .slice (some ⟨w.heap.size, 0, none⟩) 1 1]).run Tryz.prog ((w.drewN q).alloc (.cells frL.toArray 169)) = .ok (.slice (some ⟨w.heap.size + 1, 0, none⟩) (n + 1) cap') w1 ∧
      (∃ v, w1.cell? ⟨p, 12, none⟩ = some v) ∧ w1.frozen? ⟨p, 12, none⟩ = false ∧ p < w1.heap.size ∧ (w1.setCell ⟨p, 12, none⟩ (.slice (some ⟨w.heap.size + 1, 0, none⟩) (n + 1) cap')).cell? ⟨p, 12, none⟩ = some (.slice (some ⟨w.heap.size + 1, 0, none⟩) (n + 1) cap') ∧
      ∀ w2, Tn No (w1.setCell ⟨p, 12, none⟩ (.slice (some ⟨w.heap.size + 1, 0, none⟩) (n + 1) cap')) w2 → Calls Tryz.prog 74 #[.pointer (some ⟨w.heap.size + 1, n * 8, none⟩), .pointer (some ⟨fb, 3 * fn, none⟩), .slice none 0 0, .pointer (some ⟨p, 13, none⟩)] w2 fun e w' => e = .returned (.tuple #[]) ∧ w'.cell? ⟨p, 12, none⟩ = some (.slice (some ⟨w.heap.size + 1, 0, none⟩) (n + 1) cap') ∧ PU p N fb [newFr fn []] c w L w') := by
    intro n hn
    subst hn
    intro q
    have td : Tn No w (w.drewN q) := (Tn.refl No w).drewN q
    obtain ⟨cap', h1, h2, w1, h3, h4, h5, h6⟩ := row_grows (w := w.drewN q) (base := none) (n := 0) (fc := c) (.inl ⟨rfl, rfl⟩) (by omega)
    have hsz : (w.drewN q).heap.size = w.heap.size := rfl
    rw [hsz] at h3 h5 h6
    obtain ⟨g1, g2⟩ := bx_first (N := N) hp hL hlt h13 (td.then h4) h5 h6
    have l1 := lq_own (p := p) (b := w.heap.size + 1) g1.lt 12 (.slice (some ⟨w.heap.size + 1, 0, none⟩) (0 + 1) cap')
    refine ⟨cap', h1, w1, h3, ⟨_, g1.pc.cell 12 (by omega)⟩, g1.pc.froz 12, g1.pc.lt, World.cell?_setCell_same _ _ _ (g1.pc.cell 12 (by omega)), fun w2 t => ?_⟩
    have hpf := push_fin (fs := []) (fb := fb) (c := c) (w := w) (L := L) (g1.own 12 (by omega) (by omega) _) (by show 0 < cap'; omega) h2 (by simp) (upd_same _ _ _) (fun j f e => by simp at e) (g2.trans (l1.op (.inl g1.lb))) (fun i h1 _ => upd_other _ _ h1) fn none 0 [] ⟨.inl rfl, (fun v hv => by cases hv)⟩ (Nat.le_refl _) (by simp) hN w2 t
    exact hpf
  obtain ⟨n, hn⟩ : ∃ n : Nat, 0 = n := ⟨0, rfl⟩
  have HG := HG0 n hn
  have k12n : w.cell? ⟨p, 12, none⟩ = some (.slice none n n) := by rw [← hn]; exact k12
  have h2 : (n : Int) ≤ 1048575 := by omega
  clear HG0 hp hL hlt h12 h13 hn k12
  have h0 : (0 : Int) ≤ (n : Int) := by omega
  have h4 : wrap64 (n : Int) = n := by unfold wrap64; omega
  have h9 : (n : Int) < (n : Int) + 1 := by omega
  have h10 : ((n + 1 : Nat) : Int) - 1 = (n : Int) := by omega
  have h6 : wrap64 ((n : Int) + 1 - 1) = n := by unfold wrap64; omega
  have h7 : IntKind.i64.wrap (n : Int) = n := by simp [IntKind.wrap, IntKind.bits, IntKind.signed]; omega
  have h8 : IntKind.i64.wrap ((n : Int) + 1 - 1) = n := by simp [IntKind.wrap, IntKind.bits, IntKind.signed]; omega
  go_enter Tryz.func45, Tryz.ntmps45
  go_wp2_with fail
  go_quiet (fail)
  obtain ⟨cap', q1, w1, q2, ⟨v0, q3⟩, q4, q5, q6, q7⟩ := HG.out nq
  have HR := hid q2
  have HF2 := hid q7
  clear q2 q7 HG
  have e8 : (n : Int) < (cap' : Int) := by omega
  go_wp2_with (at_builtin; refine wpList_app _ rfl _ _ _ _ rfl _ _ rfl rfl _ w1 HR.out ?_)
  obtain ⟨w5, hw5⟩ : ∃ w5, w5 = w1.setCell ⟨p, 12, none⟩ (.slice (some ⟨w.heap.size + 1, 0, none⟩) (n + 1) cap') := ⟨_, rfl⟩
  rw [← hw5] at q6 HF2 ⊢
  obtain ⟨g, hg⟩ : ∃ g, w.heap.size + 1 = g := ⟨_, rfl⟩
  rw [hg] at q6 HF2
  try rw [hg]
  clear hw5
  go_region_held3 (fun w' => w'.cell? ⟨p, 12, none⟩ = some (.slice (some ⟨g, 0, none⟩) (n + 1) cap')) (go_keep) (first
    | (go_at_call 74; refine (HF2.out _ (by repeat (first | exact Tn.refl _ _ | apply Tn.drew | apply Tn.drewN | apply Tn.alloc | (refine Tn.then ?_ (by assumption)) | (refine Tn.thenNo ?_ (by assumption))))).mono ?_; rintro e w2 ⟨rfl, y12, hop⟩; have HE := hid hop; clear hop))
  go_wp2
  go_end0
  exact ⟨rfl, HE.out⟩
end
end Go.Proofs.YtoidddfpekbliaaGreat
namespace Go.Proofs.YtoidddfpekbliaaGreat
set_option linter.unusedSimpArgs false
set_option linter.unusedVariables false
open Go.RowKit
attribute [local go_sem ↓] Go.wp_at_zero Go.wp_at_succ

/-- one more byte of a word -/
def orB (x b : Int) (i : Nat) : Int := bits .or .u64 x (IntKind.u64.wrap (b * 2 ^ (8 * i)))
def orW (data : List Int) (f : Nat) : Nat → Int
  | 0 => 0
  | i + 1 => orB (orW data f i) (data.getD (f + i) 0) i
/-- the first words -/
def fillW (data : List Int) (m : Nat → Int) : Nat → Nat → Int
  | 0 => m
  | t + 1 => upd (fillW data m t) t (orW data (8 * t) (min (8 * t + 8) data.length - 8 * t))
theorem orW_range (data : List Int) (f i : Nat) : 0 ≤ orW data f i ∧ orW data f i ≤ 18446744073709551615 := by
  cases i with
  | zero => show 0 ≤ (0 : Int) ∧ (0 : Int) ≤ 18446744073709551615; omega
  | succ i => show 0 ≤ orB _ _ _ ∧ orB _ _ _ ≤ 18446744073709551615; exact bnd _ _ _

section
variable {p base size N : Nat} {v2 : Value} {m : Nat → Int} {w : World} {L : Nat → Option Lb} {c : Nat → Value}

set_option maxHeartbeats 4000000 in
set_option maxRecDepth 100000 in
theorem fill_raw (h : AB p 1 false base size v2 N m w L c) (dv : Value) (data : List Int) (hd : LD 1 eB w dv data) (hdl : 0 < data.length → ∀ g, dv.ownBlock = some g → L g = none) (hdb : ∀ b ∈ data, 0 ≤ b ∧ b ≤ 255) (hl : data.length ≤ 268435456) (hN : N < 4611686018000000000) :
    Calls Tryz.prog 44 #[.pointer (some ⟨p, 1, none⟩), dv] w fun e w' => e = .returned (.tuple #[]) ∧ AP p 1 false base size v2 (N + (data.length + 7) / 8) (fillW data m ((data.length + 7) / 8)) w L c w' := by
  obtain ⟨a, cp, rfl, hcp, hcm, hat⟩ := hd
  have HDB := hid hdb
  have hap : AP p 1 false base size v2 (N + 0) (fillW data m 0) w L c w := h.refl
  have HAP0 := hid hap
  have HLP := hid h.hL
  have HAT : Hid (∀ K m' wr, AP p 1 false base size v2 K m' w L c wr → ∀ i (hi : i < data.length), ∃ g o, a = some ⟨g, o, none⟩ ∧ wr.cell? ⟨g, o + i, none⟩ = some (.int .u8 data[i])) := hid (fun K m' wr hw i hi => by
    obtain ⟨g, o, rfl, hg, hcell⟩ := hat (by omega)
    refine ⟨g, o, rfl, ?_⟩
    obtain ⟨L', c', _, hls, _⟩ := hw
    have hn := hdl (by omega) g rfl
    rw [hls.tn.cell hg (by
      rintro (e | ⟨l, e, _⟩)
      · rw [e, HLP.out] at hn; cases hn
      · rw [hn] at e; cases e)]
    have := hcell i hi 0 (by omega)
    simpa [eB] using this)
  obtain ⟨n, hn⟩ : ∃ n, data.length = n := ⟨_, rfl⟩
  have HN := hid hn
  rw [hn] at hcp hl
  rw [hn]
  have HSW : Hid (∀ t wr, 8 * t < n → AP p 1 false base size v2 (N + t) (fillW data m t) w L c wr → Calls Tryz.prog 73 #[.pointer (some ⟨p, 1, none⟩), .int .u64 (t : Int), .int .u64 (orW data (8 * t) (min (8 * t + 8) n - 8 * t))] wr fun e w' => e = .returned (.tuple #[]) ∧ AP p 1 false base size v2 (N + (t + 1)) (fillW data m (t + 1)) w L c w') := hid (fun t wr ht hw => by
    obtain ⟨L', c', g1, g2, g3⟩ := hw
    refine (setWord_ab g1 t (by omega) (by omega) _ (orW_range _ _ _)).mono ?_
    rintro e w' ⟨rfl, hp'⟩
    have : upd (fillW data m t) t (orW data (8 * t) (min (8 * t + 8) n - 8 * t)) = fillW data m (t + 1) := by rw [← hn]; rfl
    rw [this] at hp'
    exact ⟨rfl, hp'.trans g2 g3⟩)
  clear hat hdb h hap hn hdl
  go_enter Tryz.func44, Tryz.ntmps44
  go_wp2_with fail
  go_loopw [4] (fun fv wr => ∃ f : Nat, fv = .int .i64 (f : Int) ∧ f ≤ 268435464 ∧ ∃ t : Nat, Hid (f = 8 * t ∧ (t = 0 ∨ 8 * t < n + 8)) ∧ Hid (AP p 1 false base size v2 (N + t) (fillW data m t) w L c wr)) (fun fv _ => n - (intOf fv).toNat)
  case atStart => exact ⟨0, rfl, by omega, 0, hid ⟨rfl, .inl rfl⟩, HAP0⟩
  case round =>
    obtain ⟨f, rfl, hf, t, HF, HAP⟩ := hrel
    clear HAP0
    by_cases hlt : f < n
    · have hfi : (f : Int) < (n : Int) := by omega
      obtain ⟨e, he⟩ : ∃ e, min (f + 8) n = e := ⟨_, rfl⟩
      have hmin : min ((f : Int) + 8) (n : Int) = (e : Int) := by omega
      have he1 : (f : Int) < (e : Int) := by omega
      have he2 : (e : Int) ≤ (n : Int) := by omega
      have he3 : (e : Int) ≤ (f : Int) + 8 := by omega
      have hcn : (n : Int) ≤ (cp : Int) := by omega
      obtain ⟨g, o, rfl, _⟩ := HAT.out _ _ _ HAP.out f (by have := HN.out; omega)
      have HE := hid he
      have hne : ¬ (cp = f) := by omega
      have hne2 : (cp == f) = false := by simpa using hne
      clear he
      go_wp2_with fail
      obtain ⟨K, hK⟩ : ∃ K, e - f = K := ⟨_, rfl⟩
      rw [hK]
      have hK8 : K ≤ 8 := by omega
      have hKn : f + K ≤ n := by omega
      have hwrp := HAT.out _ _ _ HAP.out
      have HWR := hid hwrp
      clear hwrp
      go_loop [5, 23] (fun xv iv => ∃ i : Nat, i ≤ K ∧ iv = .int .i64 (i : Int) ∧ ∃ X, xv = .int .u64 X ∧ Hid (X = orW data f i)) (fun _ iv => K - (intOf iv).toNat)
      case atStart => exact ⟨0, by omega, rfl, 0, rfl, hid rfl⟩
      case round =>
        obtain ⟨i, hi, rfl, X, rfl, HX⟩ := hrel
        by_cases hik : i < K
        · have hii : (i : Int) < (K : Int) := by omega
          have hi8 : (i : Int) < 8 := by omega
          obtain ⟨g', o', e1, hcell⟩ := HWR.out (f + i) (by have := HN.out; omega)
          cases e1
          obtain ⟨b, hb⟩ : ∃ b, data[f + i]'(by have := HN.out; omega) = b := ⟨_, rfl⟩
          rw [hb] at hcell
          have hbr := HDB.out b (by rw [← hb]; exact List.getElem_mem _)
          have hb0 := hbr.1
          have hb1 := hbr.2
          rw [← Nat.add_assoc] at hcell
          have HX2 : Hid (bits .or .u64 X (IntKind.u64.wrap (b * 2 ^ (8 * i))) = orW data f (i + 1)) := hid (by
            show _ = orB (orW data f i) (data.getD (f + i) 0) i
            rw [← HX.out]
            have : data.getD (f + i) 0 = b := by
              rw [List.getD_eq_getElem?_getD, List.getElem?_eq_getElem (by have := HN.out; omega), hb]; rfl
            rw [this]; rfl)
          clear HWR hb
          go_wp2_with fail
          go_round
          case rel => exact ⟨i + 1, by omega, by go_num, _, rfl, HX2⟩
          case measure => simp [intOf]; omega
        · obtain rfl : i = K := by omega
          have hq : (f : Int) / 8 = (t : Int) := by have := HF.out.1; omega
          have ht0 : 0 ≤ (t : Int) := by omega
          have ht1 : (t : Int) ≤ 268435464 := by have := HF.out.1; omega
          have HC := hid (HSW.out t wr (by have := HF.out.1; omega) HAP.out)
          have hX : orW data (8 * t) (min (8 * t + 8) n - 8 * t) = X := by
            have h1 := HF.out.1
            have h2 := HE.out
            rw [HX.out, ← hK, ← h2, h1]
          rw [hX] at HC
          have HFN : Hid (f + 8 = 8 * (t + 1) ∧ (t + 1 = 0 ∨ 8 * (t + 1) < n + 8)) := hid (by have := HF.out.1; omega)
          clear HX hX HF HWR HSW HAP HAT hK
          go_wp2_with (go_at_call 73; refine HC.out.mono ?_; rintro e w5 ⟨rfl, h5⟩; have H5 := hid h5; clear h5)
          go_roundw
          case rel => exact ⟨f + 8, by go_num, by omega, t + 1, HFN, H5⟩
          case measure => simp [intOf]; omega
    · have HE : Hid (AP p 1 false base size v2 (N + (n + 7) / 8) (fillW data m ((n + 7) / 8)) w L c wr) := hid (by
        have h1 := HF.out
        have : t = (n + 7) / 8 := by omega
        rw [← this]; exact HAP.out)
      have hge : (n : Int) ≤ (f : Int) := by omega
      go_wp2_with fail
      go_end0
      exact ⟨rfl, HE.out⟩
end
end Go.Proofs.YtoidddfpekbliaaGreat
namespace Go.Proofs.YtoidddfpekbliaaGreat
set_option linter.unusedSimpArgs false
set_option linter.unusedVariables false
open Go.RowKit

/-- the process's cells at first -/
def c18 (fb n pw : Nat) (strict : Bool) (sd nd sh nh : Nat) (i : Nat) : Value :=
  if i = 0 then .slice (some ⟨fb, 0, none⟩) n n
  else if i = 1 then .int .u64 268435456 else if i = 2 then .int .u64 (sd : Int) else if i = 3 then .slice (some ⟨nd, 0, none⟩) (nears sd) (nears sd) else if i = 4 then .map none
  else if i = 5 then .int .u64 1073741824 else if i = 6 then .int .u64 (sh : Int) else if i = 7 then .slice (some ⟨nh, 0, none⟩) (nears sh) (nears sh) else if i = 8 then .map none
  else if i = 9 then .pointer (some ⟨pw, 0, none⟩) else if i = 10 then .bool strict else if i = 11 then .bool false else if i = 12 then .slice none 0 0 else if i = 13 then .slice none 0 0
  else if i = 14 then .int .i64 0 else if i = 15 then .int .i64 0 else if i = 16 then .int .u64 0 else .int .i64 0

/-- labels of a new process -/
def L18 (B r pb nd nh : Nat) (k : Nat) : Option Lb := if k = pb then some .own else if k = nd then some (.near false) else if k = nh then some (.near true) else if B ≤ k ∧ k < r then some .prog else none

/-- a new area -/
theorem ar_new {w : World} {L : Nat → Option Lb} {a : Bool} {size nb : Nat} (h : CB w nb (nears size) (fun _ => .pointer none)) (hL : L nb = some (.near a)) : AR w L a 0 size (.slice (some ⟨nb, 0, none⟩) (nears size) (nears size)) none (fun _ => none) (fun _ => 0) := by
  have hk : nears size ≤ 65536 := Nat.min_le_right _ _
  refine ⟨.inr ⟨nb, nears size, rfl, h.lt, Nat.le_refl _, by unfold maxLen; omega, fun j hj => ⟨?_, h.froz j⟩⟩, fun g hg => ?_, fun n hn => ?_, .inl ⟨rfl, fun k => by simp⟩, (fun b hb => by cases hb), (fun n g e => by cases e), (fun _ _ _ _ => rfl), fun _ => ⟨by simp, by simp⟩⟩
  · rw [h.cell j (by omega)]; rfl
  · rw [own_eq hg]; exact hL
  · show w.cell? ⟨nb, n, none⟩ = _
    rw [h.cell n hn]; rfl

/-- a new process ahead of its data -/
structure NwP (w : World) (p : Wp) (fb pw : Nat) (strict : Bool) (sd sh r pb nd nh : Nat) (w7 : World) : Prop where
  pc : CB w7 pb 18 (c18 fb p.funs.length pw strict sd nd sh nh)
  rd : RD w fb p.funs.length p.funs p.funs.length w7
  hfb : w.heap.size ≤ fb ∧ fb < r
  hcb : ∀ i (hi : i < p.funs.length) cb, (∃ n cap, w7.cell? ⟨fb, 3 * i + 2, none⟩ = some (.slice (some ⟨cb, 0, none⟩) n cap)) → cb < r
  near : CB w7 nd (nears sd) (fun _ => .pointer none)
  nearH : CB w7 nh (nears sh) (fun _ => .pointer none)
  ord : r ≤ pb ∧ r ≤ nd ∧ r ≤ nh ∧ pb ≠ nd ∧ pb ≠ nh ∧ nd ≠ nh

theorem NwP.lab {w : World} {p : Wp} {fb pw : Nat} {strict : Bool} {sd sh r pb nd nh : Nat} {w7 : World} (h : NwP w p fb pw strict sd sh r pb nd nh w7) : L18 w.heap.size r pb nd nh pb = some .own ∧ L18 w.heap.size r pb nd nh nd = some (.near false) ∧ L18 w.heap.size r pb nd nh nh = some (.near true) ∧ (∀ k, w.heap.size ≤ k → k < r → L18 w.heap.size r pb nd nh k = some .prog) ∧ (∀ k, k < w.heap.size → L18 w.heap.size r pb nd nh k = none) := by
  have h1 := h.ord
  have h2 := h.hfb
  unfold L18
  refine ⟨by rw [if_pos rfl], by rw [if_neg (by omega), if_pos rfl], by rw [if_neg (by omega), if_neg (by omega), if_pos rfl], fun k a b => by rw [if_neg (by omega), if_neg (by omega), if_neg (by omega), if_pos ⟨a, b⟩], fun k a => by rw [if_neg (by omega), if_neg (by omega), if_neg (by omega), if_neg (by omega)]⟩

theorem NwP.mb {w : World} {p : Wp} {fb pw : Nat} {strict : Bool} {sd sh r pb nd nh : Nat} {w7 : World} (h : NwP w p fb pw strict sd sh r pb nd nh w7) (hr : r ≤ w7.heap.size) (hsd : sd ≤ 1099511627776) (hsh : sh ≤ 1099511627776) :
    MB pb 0 ⟨sd, sh, fun _ => 0, fun _ => 0⟩ (.slice (some ⟨nd, 0, none⟩) (nears sd) (nears sd)) (.slice (some ⟨nh, 0, none⟩) (nears sh) (nears sh)) w7 (L18 w.heap.size r pb nd nh) (c18 fb p.funs.length pw strict sd nd sh nh) := by
  obtain ⟨l1, l2, l3, l4, l5⟩ := h.lab
  have hlt : ∀ k, L18 w.heap.size r pb nd nh k ≠ none → k < w7.heap.size := fun k hk => by
    unfold L18 at hk
    by_cases e1 : k = pb
    · subst e1; exact h.pc.lt
    · rw [if_neg e1] at hk
      by_cases e2 : k = nd
      · subst e2; exact h.near.lt
      · rw [if_neg e2] at hk
        by_cases e3 : k = nh
        · subst e3; exact h.nearH.lt
        · rw [if_neg e3] at hk
          by_cases e4 : w.heap.size ≤ k ∧ k < r
          · omega
          · rw [if_neg e4] at hk; exact absurd rfl hk
  exact ⟨⟨h.pc, by omega, rfl, rfl, rfl, ⟨none, fun _ => none, rfl, ar_new h.near l2⟩, l1, hlt⟩, ⟨h.pc, by omega, rfl, rfl, rfl, ⟨none, fun _ => none, rfl, ar_new h.nearH l3⟩, l1, hlt⟩, hsd, hsh⟩

theorem NwP.prg {w : World} {p : Wp} {fb pw : Nat} {strict : Bool} {sd sh r pb nd nh : Nat} {w7 : World} (h : NwP w p fb pw strict sd sh r pb nd nh w7) (hk : POkP p) : PRG w7 (L18 w.heap.size r pb nd nh) (.slice (some ⟨fb, 0, none⟩) p.funs.length p.funs.length) fb (readyP p) := by
  obtain ⟨l1, l2, l3, l4, l5⟩ := h.lab
  have hlen : (readyP p).length = p.funs.length := by unfold readyP; rw [List.length_map]
  refine ⟨⟨p.funs.length, by rw [hlen], by omega⟩, l4 fb h.hfb.1 h.hfb.2, fun i f hf => ?_⟩
  unfold readyP at hf
  rw [List.getElem?_map] at hf
  cases hx : p.funs[i]? with
  | none => rw [hx] at hf; cases hf
  | some x =>
    rw [hx] at hf
    simp only [Option.map_some, Option.some.injEq] at hf
    subst hf
    obtain ⟨hi, hxe⟩ := List.getElem?_eq_some_iff.1 hx
    obtain ⟨c, hc, hfr⟩ := h.rd.cb
    obtain ⟨e0, e1, cb, cap, e2, hlr, hge, hne⟩ := hfr i hi hi
    rw [hxe] at e0 e1 e2 hlr
    have hpar := (hk.each x (List.mem_of_getElem? hx)).par
    have hc2 : w7.cell? ⟨fb, 3 * i + 2, none⟩ = some (.slice (some ⟨cb, 0, none⟩) (readyC x.code).length cap) := by rw [hc.cell _ (by omega), e2]
    have hlt := h.hcb i hi cb ⟨_, _, hc2⟩
    refine ⟨by rw [hc.cell _ (by omega), e0], ?_, cb, cap, hc2, ?_, l4 cb hge hlt, fun k q hq => ?_⟩
    · rw [hc.cell _ (by omega), e1]
      show _ = some (Value.int .i64 ((x.params.toNat : Nat) : Int))
      rw [toNat_of hpar.1]
    · obtain ⟨cb', cap', he, _, hle, _⟩ := hlr.rw.pos (readyC_pos (hk.each x (List.mem_of_getElem? hx)))
      cases he
      exact hle
    · obtain ⟨hkl, hqe⟩ := List.getElem?_eq_some_iff.1 hq
      have at' : ∀ j, j < 11 → w7.cell? ⟨cb, k * 11 + j, none⟩ = (eQ q)[j]? := fun j hj => by
        have := hlr.at' k hkl j hj
        rw [hqe] at this
        exact this
      refine ⟨at' 0 (by omega), at' 1 (by omega), at' 2 (by omega), at' 3 (by omega), at' 4 (by omega), at' 5 (by omega), fun i hi => ?_⟩
      rw [Nat.add_assoc, at' (6 + i) (by omega)]
      have : i = 0 ∨ i = 1 ∨ i = 2 ∨ i = 3 ∨ i = 4 := by omega
      rcases this with rfl | rfl | rfl | rfl | rfl <;> rfl

/-- a process at first -/
def PSt.first (M : Mem) (S : St) : PSt := ⟨[newFr 0 []], M, S, false, 0, 0, 0, 0⟩

theorem pnew_end {w : World} {p : Wp} {fb pw : Nat} {strict : Bool} {sd sh r pb nd nh N K : Nat} {w7 w8 w9 : World} {Lw : Nat → Option Lab} {S : St} {M : Mem} {vd vh : Value} {L8 : Nat → Option Lb} {c8 : Nat → Value}
    (h : NwP w p fb pw strict sd sh r pb nd nh w7) (hr : w.heap.size ≤ r) (hk : POkP p) (ht7 : Tn No w w7) (hpw : PW w pw Lw N S) (hN : N ≤ K) (hmb : MB pb K M vd vh w8 L8 c8) (hls : Ls pb Lb.isMem w7 (L18 w.heap.size r pb nd nh) w8 L8)
    (hc : ∀ i, i ≠ 4 → i ≠ 8 → c8 i = c18 fb p.funs.length pw strict sd nd sh nh i) (hpu : PU pb K fb [newFr 0 []] c8 w8 L8 w9) (hlt7 : ∀ k, L18 w.heap.size r pb nd nh k ≠ none → k < w7.heap.size) :
    ∃ L9, PA pb K fb pw (readyP p) strict (PSt.first M S) w9 L9 Lw ∧ Tn No w w9 ∧ ∀ k, k < w.heap.size → L9 k = none := by
  obtain ⟨b', cap', L9, fc9, c9, hox, hlq, hc9⟩ := hpu
  obtain ⟨l1, l2, l3, l4, l5⟩ := h.lab
  have hlp : L8 pb = some .own := hmb.d.hL
  have hnp : ∀ k l, L8 k = some l → l ≠ .own → k ≠ pb := fun k l e hne hk => by subst hk; rw [hlp] at e; cases e; exact hne rfl
  have hn8 : ∀ k, k < w.heap.size → L8 k = none := fun k hk' => by rw [hls.old k (Nat.lt_of_lt_of_le hk' ht7.size)]; exact l5 k hk'
  have hn9 : ∀ k, k < w.heap.size → L9 k = none := fun k hk' => hlq.non k (Nat.lt_of_lt_of_le hk' (Nat.le_trans ht7.size hls.tn.size)) (hn8 k hk')
  have hpbw : w.heap.size ≤ pb := by have := h.ord; omega
  have t8 : Tn No w w8 := ht7.trans hls.tn (fun _ _ e => e) (fun i hi e => by
    rcases e with e | ⟨l, e, _⟩
    · omega
    · rw [l5 i hi] at e; cases e)
  have t9 : Tn No w w9 := t8.trans hlq.tn (fun _ _ e => e) (fun i hi e => by
    rcases e with e | ⟨l, e, _⟩
    · omega
    · rw [hn8 i hi] at e; cases e)
  have hc' : ∀ i, i ≠ 4 → i ≠ 8 → i ≠ 12 → i ≠ 13 → c9 i = c18 fb p.funs.length pw strict sd nd sh nh i := fun i h1 h2 h3 h4 => (hc9 i h3 h4).trans (hc i h1 h2)
  have hpg : PRG w9 L9 (c9 0) fb (readyP p) := by
    rw [hc' 0 (by omega) (by omega) (by omega) (by omega)]
    refine ((h.prg hk).kept (w' := w8) (L' := L8) (fun k e => ?_) (fun k e => hls.keep hlt7 e)).kept (fun k e => ?_) (fun k e => hlq.old k _ e isOp_prog)
    · refine hls.tn.block k (hlt7 k (by rw [e]; simp)) ?_
      rintro (e' | ⟨l, e', hm⟩)
      · subst e'; rw [l1] at e; cases e
      · rw [e] at e'; cases e'; exact isMem_prog hm
    · exact hlq.keep hmb.d.hlt e isOp_prog (hnp k _ e (by simp))
  refine ⟨L9, ⟨b', cap', vd, vh, fc9, c9, ⟨hox, hmb.keptq (fun k l e hm => ⟨hlq.keep hmb.d.hlt e (fun q => isOp_isMem q hm) (hnp k l e (by rintro rfl; exact isMem_own hm)), hlq.old k l e (fun q => isOp_isMem q hm)⟩) hox.bx.pc hox.bx.lp (fun i h1 h2 => hc9 i (by omega) (by omega)) hox.bx.lt, hpg,
    hc' 9 (by omega) (by omega) (by omega) (by omega), hc' 10 (by omega) (by omega) (by omega) (by omega), hc' 11 (by omega) (by omega) (by omega) (by omega), hc' 14 (by omega) (by omega) (by omega) (by omega), hc' 15 (by omega) (by omega) (by omega) (by omega), hc' 16 (by omega) (by omega) (by omega) (by omega), hc' 17 (by omega) (by omega) (by omega) (by omega), (hpw.no t9).mono hN, fun k hk' => ?_⟩⟩, t9, hn9⟩
  by_cases hlt : k < w.heap.size
  · exact absurd (hn9 k hlt) hk'
  · cases e : Lw k with
    | none => rfl
    | some x => have := hpw.lt k (by rw [e]; simp); omega
end Go.Proofs.YtoidddfpekbliaaGreat
namespace Go.Proofs.YtoidddfpekbliaaGreat
set_option linter.unusedSimpArgs false
set_option linter.unusedVariables false
open Go.RowKit
attribute [local go_sem ↓] Go.wp_at_zero Go.wp_at_succ

/-- four cells of a block are set -/
def put4 (w : World) (g o : Nat) (v0 v1 v2 v3 : Value) : World := (((w.setCell ⟨g, o, none⟩ v0).setCell ⟨g, o + 1, none⟩ v1).setCell ⟨g, o + 2, none⟩ v2).setCell ⟨g, o + 3, none⟩ v3
theorem CB.put4 {w : World} {g n o : Nat} {c : Nat → Value} (h : CB w g n c) (ho : o + 3 < n) (v0 v1 v2 v3 : Value) : CB (put4 w g o v0 v1 v2 v3) g n (upd (upd (upd (upd c o v0) (o + 1) v1) (o + 2) v2) (o + 3) v3) :=
  (((h.set o (by omega) v0).set (o + 1) (by omega) v1).set (o + 2) (by omega) v2).set (o + 3) (by omega) v3
theorem put4_heap (w : World) (g o : Nat) (v0 v1 v2 v3 : Value) (k : Nat) (h : k ≠ g) : (put4 w g o v0 v1 v2 v3).heap[k]? = w.heap[k]? := by
  unfold put4
  rw [Below.heap_setCell _ _ _ _ h, Below.heap_setCell _ _ _ _ h, Below.heap_setCell _ _ _ _ h, Below.heap_setCell _ _ _ _ h]
theorem put4_tn {a w : World} (t : Tn No a w) (g o : Nat) (v0 v1 v2 v3 : Value) (h : a.heap.size ≤ g) : Tn No a (put4 w g o v0 v1 v2 v3) := by
  unfold put4
  refine (((t.set _ _ (fun e => ?_)).set _ _ (fun e => ?_)).set _ _ (fun e => ?_)).set _ _ (fun e => ?_) <;> (simp only at e; omega)
theorem put4_size (w : World) (g o : Nat) (v0 v1 v2 v3 : Value) : (put4 w g o v0 v1 v2 v3).heap.size = w.heap.size := by simp [put4]

def box18 (fb n pw : Nat) (strict : Bool) : Array Value := #[.slice (some ⟨fb, 0, none⟩) n n, .int .u64 0, .int .u64 0, .slice none 0 0, .map none, .int .u64 0, .int .u64 0, .slice none 0 0, .map none, .pointer (some ⟨pw, 0, none⟩), .bool strict, .bool false, .slice none 0 0, .slice none 0 0, .int .i64 0, .int .i64 0, .int .u64 0, .int .i64 0]

theorem RD.base {w u : World} {fb n : Nat} {fs : List Wf} {q : Nat} {wr : World} (h : RD u fb n fs q wr) (t : Tn No w u) : RD w fb n fs q wr := by
  obtain ⟨c, h1, h2⟩ := h.cb
  refine ⟨⟨c, h1, fun i hi hq => ?_⟩, t.then h.tn⟩
  obtain ⟨e1, e2, cb, cap, e3, e4, e5, e6⟩ := h2 i hi hq
  exact ⟨e1, e2, cb, cap, e3, e4, Nat.le_trans t.size e5, e6⟩

/-- the worlds on the way -/
theorem nwp_of {w w3 w5 w7 : World} {p : Wp} {fb pw nh nd sd sh : Nat} {strict : Bool} (T : TypeId) (hrd : RD w fb p.funs.length p.funs p.funs.length w3) (hfb : w.heap.size ≤ fb)
    (t5 : Tn No (w3.alloc (.cells (box18 fb p.funs.length pw strict) T)) w5) (h5 : CB w5 nh (nears sh) (fun _ => .pointer none)) (g5 : (w3.alloc (.cells (box18 fb p.funs.length pw strict) T)).heap.size ≤ nh)
    (t7 : Tn No (put4 w5 w3.heap.size 5 (.int .u64 1073741824) (.int .u64 (sh : Int)) (.slice (some ⟨nh, 0, none⟩) (nears sh) (nears sh)) (.map none)) w7) (h7 : CB w7 nd (nears sd) (fun _ => .pointer none)) (g7 : w5.heap.size ≤ nd) :
    NwP w p fb pw strict sd sh w3.heap.size w3.heap.size nd nh (put4 w7 w3.heap.size 1 (.int .u64 268435456) (.int .u64 (sd : Int)) (.slice (some ⟨nd, 0, none⟩) (nears sd) (nears sd)) (.map none)) ∧
    Tn No w (put4 w7 w3.heap.size 1 (.int .u64 268435456) (.int .u64 (sd : Int)) (.slice (some ⟨nd, 0, none⟩) (nears sd) (nears sd)) (.map none)) ∧ w3.heap.size < w7.heap.size := by
  have hs4 : (w3.alloc (.cells (box18 fb p.funs.length pw strict) T)).heap.size = w3.heap.size + 1 := by simp
  rw [hs4] at g5
  have z5 := t5.size
  rw [hs4] at z5
  have z7 := t7.size
  rw [put4_size] at z7
  have hnh := h5.lt
  have hnd := h7.lt
  have t35 : Tn No w3 w5 := ((Tn.refl No w3).alloc _).then t5
  have t3v : Tn No w3 (put4 w5 w3.heap.size 5 (.int .u64 1073741824) (.int .u64 (sh : Int)) (.slice (some ⟨nh, 0, none⟩) (nears sh) (nears sh)) (.map none)) := put4_tn t35 _ _ _ _ _ _ (Nat.le_refl _)
  have t37 := t3v.then t7
  have t3e : Tn No w3 (put4 w7 w3.heap.size 1 (.int .u64 268435456) (.int .u64 (sd : Int)) (.slice (some ⟨nd, 0, none⟩) (nears sd) (nears sd)) (.map none)) := put4_tn t37 _ _ _ _ _ _ (Nat.le_refl _)
  have c4 : CB (w3.alloc (.cells (box18 fb p.funs.length pw strict) T)) w3.heap.size 18 (fun i => ((box18 fb p.funs.length pw strict)[i]?).getD undef) := CB.new w3 _ _
  have c5 := c4.kept (w' := w5) (t5.block _ (by omega) (fun e => e))
  have c6 := c5.put4 (o := 5) (by omega) (.int .u64 1073741824) (.int .u64 (sh : Int)) (.slice (some ⟨nh, 0, none⟩) (nears sh) (nears sh)) (.map none)
  have c7 := c6.kept (w' := w7) (t7.block _ (by rw [put4_size]; omega) (fun e => e))
  have c8 := c7.put4 (o := 1) (by omega) (.int .u64 268435456) (.int .u64 (sd : Int)) (.slice (some ⟨nd, 0, none⟩) (nears sd) (nears sd)) (.map none)
  obtain ⟨c, hc, hfr⟩ := hrd.cb
  refine ⟨⟨c8.congr (fun i hi => ?_), hrd.no t3e, ⟨hfb, hc.lt⟩, fun i hi cb hx => ?_, h7.kept (put4_heap _ _ _ _ _ _ _ _ (by omega)), ?_, ⟨by omega, by omega, by omega, by omega, by omega, by omega⟩⟩, hrd.tn.then t3e, by omega⟩
  · have : i = 0 ∨ i = 1 ∨ i = 2 ∨ i = 3 ∨ i = 4 ∨ i = 5 ∨ i = 6 ∨ i = 7 ∨ i = 8 ∨ i = 9 ∨ i = 10 ∨ i = 11 ∨ i = 12 ∨ i = 13 ∨ i = 14 ∨ i = 15 ∨ i = 16 ∨ i = 17 := by omega
    rcases this with rfl | rfl | rfl | rfl | rfl | rfl | rfl | rfl | rfl | rfl | rfl | rfl | rfl | rfl | rfl | rfl | rfl | rfl <;> rfl
  · obtain ⟨n, cap, hx⟩ := hx
    obtain ⟨e1, e2, cb', cap', e3, e4, e5, e6⟩ := hfr i hi hi
    rw [t3e.cell hc.lt (fun e => e), hc.cell _ (by omega), e3] at hx
    cases hx
    exact e4.rw.lt cb rfl
  · refine (h5.kept (w' := w7) ?_).kept (put4_heap _ _ _ _ _ _ _ _ (by omega))
    rw [t7.block nh (by rw [put4_size]; omega) (fun e => e)]
    exact put4_heap _ _ _ _ _ _ _ _ (by omega)

/-- the rest of a new process -/
theorem new_tail {w wv : World} {p : Wp} {fb pw nh nd sd sh r pb N : Nat} {strict : Bool} {Lw : Nat → Option Lab} {S : St} (hk : POkP p) (h : NwP w p fb pw strict sd sh r pb nd nh wv) (ht : Tn No w wv) (hr : w.heap.size ≤ r) (hrv : r ≤ wv.heap.size) (hpw : PW w pw Lw N S) (hN : N + p.data.length ≤ 4611686018000000000) (hp : PgA w p) (hsd : sd ≤ 1099511627776) (hsh : sh ≤ 1099511627776) (u : World) (tq : Tn No wv u) :
    Calls Tryz.prog 44 #[.pointer (some ⟨pb, 1, none⟩), p.dv] u fun e w' => e = .returned (.tuple #[]) ∧ w'.cell? ⟨pb, 0, none⟩ = some (.slice (some ⟨fb, 0, none⟩) p.funs.length p.funs.length) ∧ pb < w'.heap.size ∧ (∀ k, k < r → k < pb → w'.heap[k]? = u.heap[k]?) ∧
      ∀ w8, Tn No w' w8 → Calls Tryz.prog 45 #[.pointer (some ⟨pb, 0, none⟩), .pointer (some ⟨fb, 0, none⟩), .slice none 0 0] w8 fun e w9 => e = .returned (.tuple #[]) ∧ ∃ L9, PA pb (N + (p.data.length + 7) / 8) fb pw (readyP p) strict (PSt.first ⟨sd, sh, fillW p.data (fun _ => 0) ((p.data.length + 7) / 8), fun _ => 0⟩ S) w9 L9 Lw ∧ Tn No w w9 ∧ ∀ k, k < w.heap.size → L9 k = none := by
  obtain ⟨l1, l2, l3, l4, l5⟩ := h.lab
  have hz := hk.zero
  have hnq : NwP w p fb pw strict sd sh r pb nd nh u := ⟨h.pc.kept (tq.block _ h.pc.lt (fun e => e)), h.rd.no tq, h.hfb, fun i hi cb hx => h.hcb i hi cb (by
    obtain ⟨n, cap, hx⟩ := hx
    refine ⟨n, cap, ?_⟩
    obtain ⟨c, hc, _⟩ := h.rd.cb
    rw [← tq.cell hc.lt (fun e => e)]; exact hx), h.near.kept (tq.block _ h.near.lt (fun e => e)), h.nearH.kept (tq.block _ h.nearH.lt (fun e => e)), h.ord⟩
  have hmb := hnq.mb (Nat.le_trans hrv tq.size) hsd hsh
  refine (fill_raw hmb.d p.dv p.data (hp.data.no (ht.then tq)) (fun h0 g hg => ?_) hp.dok (by omega) (by omega)).mono ?_
  · obtain ⟨a, c, e1, _, _, hat⟩ := hp.data
    obtain ⟨g', o, rfl, hg', _⟩ := hat h0
    rw [e1] at hg
    have : g = g' := by simpa [Value.ownBlock] using hg.symm
    rw [this]; exact l5 g' hg'
  · rintro e w' ⟨rfl, hap⟩
    obtain ⟨L8, c8, g1, g2, g3⟩ := hmb.setD (Nat.zero_le _) hap
    have hc0 : c8 0 = .slice (some ⟨fb, 0, none⟩) p.funs.length p.funs.length := g3 0 (by omega) (by omega)
    refine ⟨rfl, by rw [g1.d.hp.cell 0 (by omega), hc0], g1.d.hp.lt, fun k h1 h2 => g2.tn.block k (by have := tq.size; omega) ?_, fun w8 t8 => ?_⟩
    · rintro (e | ⟨l, e, hm⟩)
      · omega
      · by_cases hkw : k < w.heap.size
        · rw [l5 k hkw] at e; cases e
        · rw [l4 k (by omega) h1] at e; cases e; exact isMem_prog hm
    have hmb8 : MB pb (N + (p.data.length + 7) / 8) ⟨sd, sh, fillW p.data (fun _ => 0) ((p.data.length + 7) / 8), fun _ => 0⟩ (.slice (some ⟨nd, 0, none⟩) (nears sd) (nears sd)) (.slice (some ⟨nh, 0, none⟩) (nears sh) (nears sh)) w8 L8 c8 := by
      refine (g1.mono (by omega)).keptq (fun k l e _ => ⟨t8.block k (g1.d.hlt k (by rw [e]; simp)) (fun e => e), e⟩) (g1.d.hp.kept (t8.block _ g1.d.hp.lt (fun e => e))) g1.d.hL (fun _ _ _ => rfl) (fun k hk' => Nat.lt_of_lt_of_le (g1.d.hlt k hk') t8.size)
    have hls8 : Ls pb Lb.isMem u (L18 w.heap.size r pb nd nh) w8 L8 := ⟨g2.tn.thenNo t8, g2.old, fun k l hk' e => ⟨(g2.new k l hk' e).1, Nat.lt_of_lt_of_le (g2.new k l hk' e).2 t8.size⟩⟩
    have hpf := push_first (p := pb) (N := N + (p.data.length + 7) / 8) (fb := fb) (c := c8) (w := w8) (L := L8) hmb8.d.hp hmb8.d.hL hmb8.d.hlt (g3 12 (by omega) (by omega)) (g3 13 (by omega) (by omega)) 0 (by omega)
    refine hpf.mono ?_
    rintro e w9 ⟨rfl, hpu⟩
    exact ⟨rfl, pnew_end hnq hr hk (ht.then tq) hpw (by omega) hmb8 hls8 g3 hpu hmb.d.hlt⟩
end Go.Proofs.YtoidddfpekbliaaGreat
