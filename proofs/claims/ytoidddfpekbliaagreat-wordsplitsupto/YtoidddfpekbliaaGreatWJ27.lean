/-
  word: a step: a call. Made by gen_wstep.py.
-/
import Derived.Test.YtoidddfpekbliaaGreatWJ25
import Derived.BigQuiet
namespace Go.Proofs.YtoidddfpekbliaaGreat
set_option linter.unusedSimpArgs false
set_option linter.unusedVariables false
open Go.RowKit
attribute [local go_sem ↓] Go.wp_at_zero Go.wp_at_succ

section
variable {p N fb pw : Nat} {R : List RFun} {strict : Bool} {X : PSt} {b cap : Nat} {vd vh : Value} {fc c : Nat → Value} {w : World} {L : Nat → Option Lb} {Lw : Nat → Option Lab} {fs : List Fr} {g : Fr}
variable {rf : RFun} {q : RCode}

set_option maxHeartbeats 8000000 in
set_option maxRecDepth 100000 in
theorem step_apply (hR : RWF R) (h : PR p N fb pw R strict X b cap vd vh fc c w L Lw) (hf : X.fs = fs ++ [g]) (hg : R[g.fn]? = some rf) (hq : rf.code[g.at_]? = some q) (hset : ∀ i, i < q.count → (g.regs (q.frm i)).isSome = true) (hk : q.kind = 23) (hN : N < 4611686018426339328) : Calls Tryz.prog 48 #[.pointer (some ⟨p, 0, none⟩)] w fun e w' => ∃ bv, e = .returned (.bool bv) ∧ ((bv = true ∧ ∃ fn f, funAt R (xsOf g q 0) = some fn ∧ R[fn]? = some f ∧ f.params = q.count - 1 ∧ X.fs.length < 1048576 ∧ PL p (N + 8) fb pw R strict { X with fs := fs ++ [g.after strict] ++ [newFr fn ((List.range (q.count - 1)).map fun i => xsOf g q (i + 1))] } w L Lw w') ∨ (bv = false ∧ (¬ ∃ fn f, funAt R (xsOf g q 0) = some fn ∧ R[fn]? = some f ∧ f.params = q.count - 1 ∧ X.fs.length < 1048576) ∧ Tn No w w')) := by
  have hwf := (hR.fn g.fn rf hg).2.2.2 g.at_ q hq
  have hcl := (hR.fn g.fn rf hg).2.2.1
  obtain ⟨cb, ccap, ocap, hsi, hcc, hoc, hmost, hlc⟩ := h.si hf hg hq
  have hat : g.at_ < rf.code.length := (List.getElem?_eq_some_iff.1 hq).1
  have hcnt := hwf.cnt
  have HSI : Hid (∀ u, Tn No w u → SI p b fb fs.length cb ccap ocap g rf q u) := hid (fun u t => hsi.no t)
  have HXN : Hid (∀ u, Tn No w u → u.heap.size = w.heap.size → XA w.heap.size (xsOf g q) 0 (u.alloc (.cells #[.int .u64 0, .int .u64 0, .int .u64 0, .int .u64 0, .int .u64 0] 182))) := hid (fun u t e => by rw [← e]; exact XA.new u _ _)

  have HGET : Hid (∀ u j, Tn No w u → j < q.count → Calls Tryz.prog 78 #[.pointer (some ⟨b, fs.length * 8 + 2, none⟩), .int .u64 (q.frm j : Int)] u fun e w' => e = .returned (.tuple #[.int .u64 (xsOf g q j), .bool true]) ∧ w' = u) := hid (fun u j t hj => by
    have := h.gets hf u t (q.frm j) (by have := hwf.fr j (by omega); omega)
    rw [hset j hj] at this
    have e : xsOf g q j = (g.regs (q.frm j)).getD 0 := by unfold xsOf; rw [if_pos hj]
    rw [e]
    exact this)

  have hox : L w.heap.size = none ∧ Lw w.heap.size = none := by
    refine ⟨?_, ?_⟩
    · cases e : L w.heap.size with
      | none => rfl
      | some l => have := h.lt w.heap.size (by rw [e]; simp); omega
    · cases e : Lw w.heap.size with
      | none => rfl
      | some l => have := h.pw.lt w.heap.size (by rw [e]; simp); omega
  have huu := fun i => xsOf_ok h hf q i

  obtain ⟨hc1, hto⟩ := hwf.app (.inl hk)
  obtain ⟨m, hm⟩ : ∃ m, q.count = m + 1 := ⟨q.count - 1, by omega⟩

  obtain ⟨PO, hPO⟩ : ∃ PO : Ending → World → Prop, (fun e w' => ∃ bv, e = .returned (.bool bv) ∧ ((bv = true ∧ ∃ fn f, funAt R (xsOf g q 0) = some fn ∧ R[fn]? = some f ∧ f.params = q.count - 1 ∧ X.fs.length < 1048576 ∧ PL p (N + 8) fb pw R strict { X with fs := fs ++ [g.after strict] ++ [newFr fn ((List.range (q.count - 1)).map fun i => xsOf g q (i + 1))] } w L Lw w') ∨ (bv = false ∧ (¬ ∃ fn f, funAt R (xsOf g q 0) = some fn ∧ R[fn]? = some f ∧ f.params = q.count - 1 ∧ X.fs.length < 1048576) ∧ Tn No w w'))) = PO := ⟨_, rfl⟩
  have HCL : Hid (∀ u, Tn No w u → w.heap.size < u.heap.size → (∀ i, i < 5 → u.cell? ⟨w.heap.size, i, none⟩ = some (.int .u64 (xsOf g q i))) → Calls Tryz.prog 80 #[.pointer (some ⟨p, 0, none⟩), .pointer (some ⟨b, fs.length * 8, none⟩), .pointer (some ⟨cb, g.at_ * 11, none⟩), .slice (some ⟨w.heap.size, 0, none⟩) q.count 5] u fun e w' => (∃ bv, e = .returned (.bool bv)) ∧ PO e w') := hid (fun u t hul hcl' => by
    rw [← hPO]
    refine Calls.mono (R := fun e w' => ∃ bv, e = .returned (.bool bv) ∧ ((bv = true ∧ ∃ fn f, funAt R (xsOf g q 0) = some fn ∧ R[fn]? = some f ∧ f.params = q.count - 1 ∧ X.fs.length < 1048576 ∧ PL p (N + 8) fb pw R strict { X with fs := fs ++ [g.after strict] ++ [newFr fn ((List.range (q.count - 1)).map fun i => xsOf g q (i + 1))] } w L Lw w') ∨ (bv = false ∧ (¬ ∃ fn f, funAt R (xsOf g q 0) = some fn ∧ R[fn]? = some f ∧ f.params = q.count - 1 ∧ X.fs.length < 1048576) ∧ Tn No w w'))) ?_ (fun e w' z => ⟨by obtain ⟨bv, e, _⟩ := z; exact ⟨bv, e⟩, z⟩)
    have hav : AW u L Lw w.heap.size 0 (xsOf g q 0 :: (List.range (q.count - 1)).map fun i => xsOf g q (i + 1)) := by
      refine ⟨hul, hox.1, hox.2, fun i v e => ?_, fun v hv => ?_⟩
      · cases i with
        | zero => simp at e; rw [← e, Nat.zero_add]; exact hcl' 0 (by omega)
        | succ i =>
          rw [List.getElem?_cons_succ, List.getElem?_map] at e
          cases er : (List.range (q.count - 1))[i]? with
          | none => rw [er] at e; cases e
          | some x =>
            rw [er] at e
            obtain ⟨h1, h2⟩ := List.getElem?_eq_some_iff.1 er
            simp at h1 h2
            subst h2
            simp only [Option.map_some, Option.some.injEq] at e
            rw [← e, Nat.zero_add]
            exact hcl' _ (by omega)
      · rcases List.mem_cons.1 hv with rfl | hv
        · exact ⟨(huu 0).1, (huu 0).2⟩
        · obtain ⟨i, _, rfl⟩ := List.mem_map.1 hv
          exact ⟨(huu _).1, (huu _).2⟩
    have := call23 hR (by have := (List.getElem?_eq_some_iff.1 hg).1; omega) (h.no t) hf (by omega) q hk hto cb (g.at_ * 11) (hsi.no t).q w.heap.size 0 (xsOf g q 0) _ hav (by simp; omega) hN
    rw [show ((List.range (q.count - 1)).map fun i => xsOf g q (i + 1)).length + 1 = q.count by simp; omega] at this
    refine this.mono ?_
    rintro e w' (⟨fn, f, a1, a2, a3, a4, rfl, a6⟩ | ⟨a1, rfl, a3⟩)
    · exact ⟨true, rfl, .inl ⟨rfl, fn, f, a1, a2, by rw [a3]; simp, a4, a6.trans t.any (fun _ _ a b => ⟨a, b⟩)⟩⟩
    · refine ⟨false, rfl, .inr ⟨rfl, fun ⟨fn, f, b1, b2, b3, b4⟩ => a1 ⟨fn, f, b1, b2, by rw [b3]; simp, b4⟩, t.then a3⟩⟩)
  rw [hPO]
  clear hPO huu hox hc1 hto hm
  obtain ⟨xs, hxs⟩ : ∃ xs, xsOf g q = xs := ⟨_, rfl⟩
  have hx0 : ∀ i, q.count ≤ i → xs i = 0 := fun i hi => by rw [← hxs]; unfold xsOf; rw [if_neg (by omega)]
  have hfr := hwf.fr

  rw [hxs] at HGET HXN
  rw [hxs] at HCL
  obtain ⟨n, hn⟩ : ∃ n, fs.length = n := ⟨_, rfl⟩
  obtain ⟨cl, hc⟩ : ∃ cl, rf.code.length = cl := ⟨_, rfl⟩
  obtain ⟨a, ha⟩ : ∃ a, g.at_ = a := ⟨_, rfl⟩
  obtain ⟨cnt, hct⟩ : ∃ cnt, q.count = cnt := ⟨_, rfl⟩
  obtain ⟨fn, hfn⟩ : ∃ fn, g.fn = fn := ⟨_, rfl⟩
  obtain ⟨frm, hfm⟩ : ∃ frm, q.frm = frm := ⟨_, rfl⟩
  have s0 := (HSI.out w (Tn.refl _ _)).ov
  have s1 := (HSI.out w (Tn.refl _ _)).pl
  have s2 := (HSI.out w (Tn.refl _ _)).bl
  have s3 := (HSI.out w (Tn.refl _ _)).fl
  have s4 := (HSI.out w (Tn.refl _ _)).cl
  have s5 := (HSI.out w (Tn.refl _ _)).f0
  have s6 := (HSI.out w (Tn.refl _ _)).f1
  have s7 := (HSI.out w (Tn.refl _ _)).cd
  have s8 : ∀ k, ((w.drewN k).alloc (.cells #[.int .u64 0, .int .u64 0, .int .u64 0, .int .u64 0, .int .u64 0] 182)).cell? ⟨cb, g.at_ * 11 + 2, none⟩ = some (.int .u8 (q.count : Int)) := fun k => (HSI.out _ (((Tn.refl No w).drewN k).alloc _)).q.k2
  rw [hn] at s0 s5 s6 hoc hmost
  rw [hfn] at s5 s7
  rw [ha] at s6 s8 hat
  rw [hc] at s7 hcl hcc hat
  rw [hct] at s8 hcnt hx0
  rw [hfm] at hfr
  have a0 : (0 : Int) ≤ (n : Int) := by omega
  have y3' : (n : Int) ≤ 1048575 := by omega
  have y4' : (n : Int) ≤ 4611686018427387904 := Int.le_trans y3' (by decide)
  have b0 : (0 : Int) ≤ (a : Int) := by omega
  have b1' : (a : Int) < (cl : Int) := by omega
  have b2 : (cl : Int) ≤ 4194304 := by omega
  have ci : (cnt : Int) ≤ 5 := by omega
  have a1 : (n : Int) < (n : Int) + 1 := by omega
  have a2 : ((n + 1 : Nat) : Int) - 1 = (n : Int) := by omega
  have w0 := wrap64_small (n : Int) a0 y4'
  have w1' := wrapi_small (n : Int) a0 y4'
  have w2' : IntKind.i64.wrap ((n : Int) + 1 - 1) = n := by rw [Int.add_sub_cancel]; exact w1'

  have HNM := hid (And.intro hn (And.intro hfn (And.intro ha hfm)))
  have HCT := hid hct
  have HKD := hid hk
  clear hwf hR h hf hg hq hset hsi hxs hn hc ha hct hfn hfm hlc hk
  go_enter Tryz.func48, Tryz.ntmps48
  go_wp2_with fail
  go_quiet (fail)
  go_wp2_with fail
  go_quiet (fail)
  go_wp2_with fail

  clear s0 s5 s6 s7 s8 w0 w1' w2' a1 a2 s1 s2 s3 s4
  go_loopw [6, 7, 8, 38] (fun _ _ _ i wr => ∃ j : Nat, j ≤ cnt ∧ i = .int .u8 (j : Int) ∧ Tn No w wr ∧ XA w.heap.size xs j wr) (fun _ _ _ i _ => cnt - (intOf i).toNat)
  case atStart => exact ⟨0, by omega, rfl, (by repeat (first | exact Tn.refl _ _ | apply Tn.drew | apply Tn.drewN | apply Tn.alloc | (refine Tn.then ?_ (by assumption)) | (refine Tn.thenNo ?_ (by assumption)))), HXN.out _ (by repeat (first | exact Tn.refl _ _ | apply Tn.drew | apply Tn.drewN | apply Tn.alloc | (refine Tn.then ?_ (by assumption)) | (refine Tn.thenNo ?_ (by assumption)))) rfl⟩
  case round =>
    obtain ⟨j, hj, rfl, twr, hxa⟩ := hrel
    by_cases hlt : j < cnt
    · have hsw := HSI.out wr twr
      have t0 := hsw.f0
      have t1 := hsw.bl
      have t2 := hsw.cl
      have t3 := hsw.q.k6 j (by omega)
      rw [HNM.out.1] at t0
      rw [HNM.out.2.1] at t0
      rw [HNM.out.2.2.1, HNM.out.2.2.2] at t3
      have HG := hid (fun u t => HGET.out u j (twr.then t) (by have := HCT.out; omega))
      rw [HNM.out.1, HNM.out.2.2.2] at HG
      have x0 := hxa.at' j (by omega)
      rw [if_neg (by omega)] at x0
      have x1 := hxa.lt
      have x2 := hxa.fz j
      have HST := hid (fun u (t : Tn No wr u) => (hxa.no t).step (j := j) (by omega))
      have HTW := hid twr
      have j1 : (j : Int) < (cnt : Int) := by omega
      have j2 : (j : Int) < 5 := by omega
      have j3 : (0 : Int) ≤ (frm j : Int) := by omega
      have j4 : (frm j : Int) ≤ 4294967295 := by have := hfr j (by omega); omega
      have j5 := wrapu_small (frm j : Int) j3 (by omega)
      clear hsw hxa twr
      go_wp2_with fail
      go_quiet ((go_at_call 78; exact Calls.quiet_of_same (HG.out _ (by repeat (first | exact Tn.refl _ _ | apply Tn.drew | apply Tn.drewN | apply Tn.alloc | (refine Tn.then ?_ (by assumption)) | (refine Tn.thenNo ?_ (by assumption)))))))
      go_wp2_with fail
      go_roundw
      case rel => exact ⟨j + 1, by omega, by go_num, ((HTW.out.drewN _).set _ _ (by intro h; simp at h)), HST.out _ ((Tn.refl No wr).drewN _)⟩
      case measure => simp [intOf]; omega
    · obtain rfl : j = cnt := by omega
      have hsw := HSI.out wr twr
      have hxi : ∀ i, i < 5 → wr.cell? ⟨w.heap.size, i, none⟩ = some (.int .u64 (xs i)) := fun i hi => by
        rw [hxa.at' i hi]
        by_cases e : i < j
        · rw [if_pos e]
        · rw [if_neg e, hx0 i (by omega)]
      have HTW := hid twr
      have t0 := hsw.f0
      have t1 := hsw.f1
      have t2 := hsw.z1
      have t3 := hsw.bl
      have t4 := hsw.cl
      have t5 := hsw.q.k0
      rw [HNM.out.1, HNM.out.2.1] at t0
      rw [HNM.out.1, HNM.out.2.2.1] at t1
      rw [HNM.out.1] at t2
      rw [HNM.out.2.2.1, HKD.out] at t5
      have xl := hxa.lt

      have t7 := hsw.q.k2
      rw [HNM.out.2.2.1, HCT.out] at t7
      have HC := HCL.out wr HTW.out xl hxi
      rw [HNM.out.1, HNM.out.2.2.1, HCT.out] at HC
      have HC1 := hid HC
      have c1 : (j : Int) ≤ 5 := by omega
      clear hsw hxa twr hxi HGET HXN HSI HCL hx0 HC
      go_wp2_with (go_at_call 80; refine HC1.out.mono ?_; rintro e w2 ⟨⟨bv, rfl⟩, hpo⟩; have HPO := hid hpo; clear hpo)
      exact HPO.out
end
end Go.Proofs.YtoidddfpekbliaaGreat
namespace Go.Proofs.YtoidddfpekbliaaGreat
set_option linter.unusedSimpArgs false
set_option linter.unusedVariables false
open Go.RowKit
attribute [local go_sem ↓] Go.wp_at_zero Go.wp_at_succ

section
variable {p N fb pw : Nat} {R : List RFun} {strict : Bool} {X : PSt} {b cap : Nat} {vd vh : Value} {fc c : Nat → Value} {w : World} {L : Nat → Option Lb} {Lw : Nat → Option Lab} {fs : List Fr} {g : Fr}
variable {rf : RFun} {q : RCode}

set_option maxHeartbeats 8000000 in
set_option maxRecDepth 100000 in
theorem step_tail (hR : RWF R) (h : PR p N fb pw R strict X b cap vd vh fc c w L Lw) (hf : X.fs = fs ++ [g]) (hg : R[g.fn]? = some rf) (hq : rf.code[g.at_]? = some q) (hset : ∀ i, i < q.count → (g.regs (q.frm i)).isSome = true) (hk : q.kind = 24) (hN : N < 4611686018426339328) : Calls Tryz.prog 48 #[.pointer (some ⟨p, 0, none⟩)] w fun e w' => ∃ bv, e = .returned (.bool bv) ∧ ((bv = true ∧ True ∧ PL p (N + 8) fb pw R strict { X with fs := fs ++ [newFr q.to_.toNat ((List.range q.count).map (xsOf g q))] } w L Lw w') ∨ (bv = false ∧ ¬ True ∧ Tn No w w')) := by
  have hwf := (hR.fn g.fn rf hg).2.2.2 g.at_ q hq
  have hcl := (hR.fn g.fn rf hg).2.2.1
  obtain ⟨cb, ccap, ocap, hsi, hcc, hoc, hmost, hlc⟩ := h.si hf hg hq
  have hat : g.at_ < rf.code.length := (List.getElem?_eq_some_iff.1 hq).1
  have hcnt := hwf.cnt
  have HSI : Hid (∀ u, Tn No w u → SI p b fb fs.length cb ccap ocap g rf q u) := hid (fun u t => hsi.no t)
  have HXN : Hid (∀ u, Tn No w u → u.heap.size = w.heap.size → XA w.heap.size (xsOf g q) 0 (u.alloc (.cells #[.int .u64 0, .int .u64 0, .int .u64 0, .int .u64 0, .int .u64 0] 182))) := hid (fun u t e => by rw [← e]; exact XA.new u _ _)

  have HGET : Hid (∀ u j, Tn No w u → j < q.count → Calls Tryz.prog 78 #[.pointer (some ⟨b, fs.length * 8 + 2, none⟩), .int .u64 (q.frm j : Int)] u fun e w' => e = .returned (.tuple #[.int .u64 (xsOf g q j), .bool true]) ∧ w' = u) := hid (fun u j t hj => by
    have := h.gets hf u t (q.frm j) (by have := hwf.fr j (by omega); omega)
    rw [hset j hj] at this
    have e : xsOf g q j = (g.regs (q.frm j)).getD 0 := by unfold xsOf; rw [if_pos hj]
    rw [e]
    exact this)

  have hox : L w.heap.size = none ∧ Lw w.heap.size = none := by
    refine ⟨?_, ?_⟩
    · cases e : L w.heap.size with
      | none => rfl
      | some l => have := h.lt w.heap.size (by rw [e]; simp); omega
    · cases e : Lw w.heap.size with
      | none => rfl
      | some l => have := h.pw.lt w.heap.size (by rw [e]; simp); omega
  have huu := fun i => xsOf_ok h hf q i

  obtain ⟨fn, f, hto, hfnn, hpar⟩ := hwf.call (.inr hk)
  have et : q.to_.toNat = fn := by rw [hto]; rfl

  obtain ⟨PO, hPO⟩ : ∃ PO : Ending → World → Prop, (fun e w' => ∃ bv, e = .returned (.bool bv) ∧ ((bv = true ∧ True ∧ PL p (N + 8) fb pw R strict { X with fs := fs ++ [newFr q.to_.toNat ((List.range q.count).map (xsOf g q))] } w L Lw w') ∨ (bv = false ∧ ¬ True ∧ Tn No w w'))) = PO := ⟨_, rfl⟩
  have HCL : Hid (∀ u, Tn No w u → w.heap.size < u.heap.size → (∀ i, i < 5 → u.cell? ⟨w.heap.size, i, none⟩ = some (.int .u64 (xsOf g q i))) → Calls Tryz.prog 80 #[.pointer (some ⟨p, 0, none⟩), .pointer (some ⟨b, fs.length * 8, none⟩), .pointer (some ⟨cb, g.at_ * 11, none⟩), .slice (some ⟨w.heap.size, 0, none⟩) q.count 5] u fun e w' => (∃ bv, e = .returned (.bool bv)) ∧ PO e w') := hid (fun u t hul hcl' => by
    rw [← hPO]
    refine Calls.mono (R := fun e w' => ∃ bv, e = .returned (.bool bv) ∧ ((bv = true ∧ True ∧ PL p (N + 8) fb pw R strict { X with fs := fs ++ [newFr q.to_.toNat ((List.range q.count).map (xsOf g q))] } w L Lw w') ∨ (bv = false ∧ ¬ True ∧ Tn No w w'))) ?_ (fun e w' z => ⟨by obtain ⟨bv, e, _⟩ := z; exact ⟨bv, e⟩, z⟩)
    have hav : AW u L Lw w.heap.size 0 ((List.range q.count).map (xsOf g q)) := by
      refine ⟨hul, hox.1, hox.2, fun i v e => ?_, fun v hv => ?_⟩
      · rw [List.getElem?_map] at e
        cases er : (List.range q.count)[i]? with
        | none => rw [er] at e; cases e
        | some x =>
          rw [er] at e
          obtain ⟨h1, h2⟩ := List.getElem?_eq_some_iff.1 er
          simp at h1 h2
          subst h2
          simp only [Option.map_some, Option.some.injEq] at e
          rw [← e, Nat.zero_add]
          exact hcl' _ (by omega)
      · obtain ⟨i, _, rfl⟩ := List.mem_map.1 hv
        exact ⟨(huu _).1, (huu _).2⟩
    have := call24 hR (h.no t) hf (by omega) q hk fn f hto hfnn cb (g.at_ * 11) (hsi.no t).q w.heap.size 0 5 _ hav (by simp; omega) (by simp; omega) (by rw [hpar]; simp) hN
    rw [show ((List.range q.count).map (xsOf g q)).length = q.count by simp] at this
    refine this.mono ?_
    rintro e w' ⟨rfl, b2⟩
    rw [et]
    exact ⟨true, rfl, .inl ⟨rfl, trivial, b2.trans t.any (fun _ _ a b => ⟨a, b⟩)⟩⟩)
  rw [hPO]
  clear hPO huu hox et hto hfnn hpar
  obtain ⟨xs, hxs⟩ : ∃ xs, xsOf g q = xs := ⟨_, rfl⟩
  have hx0 : ∀ i, q.count ≤ i → xs i = 0 := fun i hi => by rw [← hxs]; unfold xsOf; rw [if_neg (by omega)]
  have hfr := hwf.fr

  rw [hxs] at HGET HXN
  rw [hxs] at HCL
  obtain ⟨n, hn⟩ : ∃ n, fs.length = n := ⟨_, rfl⟩
  obtain ⟨cl, hc⟩ : ∃ cl, rf.code.length = cl := ⟨_, rfl⟩
  obtain ⟨a, ha⟩ : ∃ a, g.at_ = a := ⟨_, rfl⟩
  obtain ⟨cnt, hct⟩ : ∃ cnt, q.count = cnt := ⟨_, rfl⟩
  obtain ⟨fn, hfn⟩ : ∃ fn, g.fn = fn := ⟨_, rfl⟩
  obtain ⟨frm, hfm⟩ : ∃ frm, q.frm = frm := ⟨_, rfl⟩
  have s0 := (HSI.out w (Tn.refl _ _)).ov
  have s1 := (HSI.out w (Tn.refl _ _)).pl
  have s2 := (HSI.out w (Tn.refl _ _)).bl
  have s3 := (HSI.out w (Tn.refl _ _)).fl
  have s4 := (HSI.out w (Tn.refl _ _)).cl
  have s5 := (HSI.out w (Tn.refl _ _)).f0
  have s6 := (HSI.out w (Tn.refl _ _)).f1
  have s7 := (HSI.out w (Tn.refl _ _)).cd
  have s8 : ∀ k, ((w.drewN k).alloc (.cells #[.int .u64 0, .int .u64 0, .int .u64 0, .int .u64 0, .int .u64 0] 182)).cell? ⟨cb, g.at_ * 11 + 2, none⟩ = some (.int .u8 (q.count : Int)) := fun k => (HSI.out _ (((Tn.refl No w).drewN k).alloc _)).q.k2
  rw [hn] at s0 s5 s6 hoc hmost
  rw [hfn] at s5 s7
  rw [ha] at s6 s8 hat
  rw [hc] at s7 hcl hcc hat
  rw [hct] at s8 hcnt hx0
  rw [hfm] at hfr
  have a0 : (0 : Int) ≤ (n : Int) := by omega
  have y3' : (n : Int) ≤ 1048575 := by omega
  have y4' : (n : Int) ≤ 4611686018427387904 := Int.le_trans y3' (by decide)
  have b0 : (0 : Int) ≤ (a : Int) := by omega
  have b1' : (a : Int) < (cl : Int) := by omega
  have b2 : (cl : Int) ≤ 4194304 := by omega
  have ci : (cnt : Int) ≤ 5 := by omega
  have a1 : (n : Int) < (n : Int) + 1 := by omega
  have a2 : ((n + 1 : Nat) : Int) - 1 = (n : Int) := by omega
  have w0 := wrap64_small (n : Int) a0 y4'
  have w1' := wrapi_small (n : Int) a0 y4'
  have w2' : IntKind.i64.wrap ((n : Int) + 1 - 1) = n := by rw [Int.add_sub_cancel]; exact w1'

  have HNM := hid (And.intro hn (And.intro hfn (And.intro ha hfm)))
  have HCT := hid hct
  have HKD := hid hk
  clear hwf hR h hf hg hq hset hsi hxs hn hc ha hct hfn hfm hlc hk
  go_enter Tryz.func48, Tryz.ntmps48
  go_wp2_with fail
  go_quiet (fail)
  go_wp2_with fail
  go_quiet (fail)
  go_wp2_with fail

  clear s0 s5 s6 s7 s8 w0 w1' w2' a1 a2 s1 s2 s3 s4
  go_loopw [6, 7, 8, 38] (fun _ _ _ i wr => ∃ j : Nat, j ≤ cnt ∧ i = .int .u8 (j : Int) ∧ Tn No w wr ∧ XA w.heap.size xs j wr) (fun _ _ _ i _ => cnt - (intOf i).toNat)
  case atStart => exact ⟨0, by omega, rfl, (by repeat (first | exact Tn.refl _ _ | apply Tn.drew | apply Tn.drewN | apply Tn.alloc | (refine Tn.then ?_ (by assumption)) | (refine Tn.thenNo ?_ (by assumption)))), HXN.out _ (by repeat (first | exact Tn.refl _ _ | apply Tn.drew | apply Tn.drewN | apply Tn.alloc | (refine Tn.then ?_ (by assumption)) | (refine Tn.thenNo ?_ (by assumption)))) rfl⟩
  case round =>
    obtain ⟨j, hj, rfl, twr, hxa⟩ := hrel
    by_cases hlt : j < cnt
    · have hsw := HSI.out wr twr
      have t0 := hsw.f0
      have t1 := hsw.bl
      have t2 := hsw.cl
      have t3 := hsw.q.k6 j (by omega)
      rw [HNM.out.1] at t0
      rw [HNM.out.2.1] at t0
      rw [HNM.out.2.2.1, HNM.out.2.2.2] at t3
      have HG := hid (fun u t => HGET.out u j (twr.then t) (by have := HCT.out; omega))
      rw [HNM.out.1, HNM.out.2.2.2] at HG
      have x0 := hxa.at' j (by omega)
      rw [if_neg (by omega)] at x0
      have x1 := hxa.lt
      have x2 := hxa.fz j
      have HST := hid (fun u (t : Tn No wr u) => (hxa.no t).step (j := j) (by omega))
      have HTW := hid twr
      have j1 : (j : Int) < (cnt : Int) := by omega
      have j2 : (j : Int) < 5 := by omega
      have j3 : (0 : Int) ≤ (frm j : Int) := by omega
      have j4 : (frm j : Int) ≤ 4294967295 := by have := hfr j (by omega); omega
      have j5 := wrapu_small (frm j : Int) j3 (by omega)
      clear hsw hxa twr
      go_wp2_with fail
      go_quiet ((go_at_call 78; exact Calls.quiet_of_same (HG.out _ (by repeat (first | exact Tn.refl _ _ | apply Tn.drew | apply Tn.drewN | apply Tn.alloc | (refine Tn.then ?_ (by assumption)) | (refine Tn.thenNo ?_ (by assumption)))))))
      go_wp2_with fail
      go_roundw
      case rel => exact ⟨j + 1, by omega, by go_num, ((HTW.out.drewN _).set _ _ (by intro h; simp at h)), HST.out _ ((Tn.refl No wr).drewN _)⟩
      case measure => simp [intOf]; omega
    · obtain rfl : j = cnt := by omega
      have hsw := HSI.out wr twr
      have hxi : ∀ i, i < 5 → wr.cell? ⟨w.heap.size, i, none⟩ = some (.int .u64 (xs i)) := fun i hi => by
        rw [hxa.at' i hi]
        by_cases e : i < j
        · rw [if_pos e]
        · rw [if_neg e, hx0 i (by omega)]
      have HTW := hid twr
      have t0 := hsw.f0
      have t1 := hsw.f1
      have t2 := hsw.z1
      have t3 := hsw.bl
      have t4 := hsw.cl
      have t5 := hsw.q.k0
      rw [HNM.out.1, HNM.out.2.1] at t0
      rw [HNM.out.1, HNM.out.2.2.1] at t1
      rw [HNM.out.1] at t2
      rw [HNM.out.2.2.1, HKD.out] at t5
      have xl := hxa.lt

      have t7 := hsw.q.k2
      rw [HNM.out.2.2.1, HCT.out] at t7
      have HC := HCL.out wr HTW.out xl hxi
      rw [HNM.out.1, HNM.out.2.2.1, HCT.out] at HC
      have HC1 := hid HC
      have c1 : (j : Int) ≤ 5 := by omega
      clear hsw hxa twr hxi HGET HXN HSI HCL hx0 HC
      go_wp2_with (go_at_call 80; refine HC1.out.mono ?_; rintro e w2 ⟨⟨bv, rfl⟩, hpo⟩; have HPO := hid hpo; clear hpo)
      exact HPO.out
end
end Go.Proofs.YtoidddfpekbliaaGreat
namespace Go.Proofs.YtoidddfpekbliaaGreat
set_option linter.unusedSimpArgs false
set_option linter.unusedVariables false
open Go.RowKit
attribute [local go_sem ↓] Go.wp_at_zero Go.wp_at_succ

section
variable {p N fb pw : Nat} {R : List RFun} {strict : Bool} {X : PSt} {b cap : Nat} {vd vh : Value} {fc c : Nat → Value} {w : World} {L : Nat → Option Lb} {Lw : Nat → Option Lab} {fs : List Fr} {g : Fr}
variable {rf : RFun} {q : RCode}

set_option maxHeartbeats 8000000 in
set_option maxRecDepth 100000 in
theorem step_go (hR : RWF R) (h : PR p N fb pw R strict X b cap vd vh fc c w L Lw) (hf : X.fs = fs ++ [g]) (hg : R[g.fn]? = some rf) (hq : rf.code[g.at_]? = some q) (hset : ∀ i, i < q.count → (g.regs (q.frm i)).isSome = true) (hk : q.kind = 25) (hN : N < 4611686018426339328) : Calls Tryz.prog 48 #[.pointer (some ⟨p, 0, none⟩)] w fun e w' => ∃ bv, e = .returned (.bool bv) ∧ ((bv = true ∧ ∃ fn f, funAt R (xsOf g q 0) = some fn ∧ R[fn]? = some f ∧ f.params = q.count - 1 ∧ True ∧ PL p (N + 8) fb pw R strict { X with fs := fs ++ [newFr fn ((List.range (q.count - 1)).map fun i => xsOf g q (i + 1))] } w L Lw w') ∨ (bv = false ∧ (¬ ∃ fn f, funAt R (xsOf g q 0) = some fn ∧ R[fn]? = some f ∧ f.params = q.count - 1 ∧ True) ∧ Tn No w w')) := by
  have hwf := (hR.fn g.fn rf hg).2.2.2 g.at_ q hq
  have hcl := (hR.fn g.fn rf hg).2.2.1
  obtain ⟨cb, ccap, ocap, hsi, hcc, hoc, hmost, hlc⟩ := h.si hf hg hq
  have hat : g.at_ < rf.code.length := (List.getElem?_eq_some_iff.1 hq).1
  have hcnt := hwf.cnt
  have HSI : Hid (∀ u, Tn No w u → SI p b fb fs.length cb ccap ocap g rf q u) := hid (fun u t => hsi.no t)
  have HXN : Hid (∀ u, Tn No w u → u.heap.size = w.heap.size → XA w.heap.size (xsOf g q) 0 (u.alloc (.cells #[.int .u64 0, .int .u64 0, .int .u64 0, .int .u64 0, .int .u64 0] 182))) := hid (fun u t e => by rw [← e]; exact XA.new u _ _)

  have HGET : Hid (∀ u j, Tn No w u → j < q.count → Calls Tryz.prog 78 #[.pointer (some ⟨b, fs.length * 8 + 2, none⟩), .int .u64 (q.frm j : Int)] u fun e w' => e = .returned (.tuple #[.int .u64 (xsOf g q j), .bool true]) ∧ w' = u) := hid (fun u j t hj => by
    have := h.gets hf u t (q.frm j) (by have := hwf.fr j (by omega); omega)
    rw [hset j hj] at this
    have e : xsOf g q j = (g.regs (q.frm j)).getD 0 := by unfold xsOf; rw [if_pos hj]
    rw [e]
    exact this)

  have hox : L w.heap.size = none ∧ Lw w.heap.size = none := by
    refine ⟨?_, ?_⟩
    · cases e : L w.heap.size with
      | none => rfl
      | some l => have := h.lt w.heap.size (by rw [e]; simp); omega
    · cases e : Lw w.heap.size with
      | none => rfl
      | some l => have := h.pw.lt w.heap.size (by rw [e]; simp); omega
  have huu := fun i => xsOf_ok h hf q i

  obtain ⟨hc1, hto⟩ := hwf.app (.inr hk)
  obtain ⟨m, hm⟩ : ∃ m, q.count = m + 1 := ⟨q.count - 1, by omega⟩

  obtain ⟨PO, hPO⟩ : ∃ PO : Ending → World → Prop, (fun e w' => ∃ bv, e = .returned (.bool bv) ∧ ((bv = true ∧ ∃ fn f, funAt R (xsOf g q 0) = some fn ∧ R[fn]? = some f ∧ f.params = q.count - 1 ∧ True ∧ PL p (N + 8) fb pw R strict { X with fs := fs ++ [newFr fn ((List.range (q.count - 1)).map fun i => xsOf g q (i + 1))] } w L Lw w') ∨ (bv = false ∧ (¬ ∃ fn f, funAt R (xsOf g q 0) = some fn ∧ R[fn]? = some f ∧ f.params = q.count - 1 ∧ True) ∧ Tn No w w'))) = PO := ⟨_, rfl⟩
  have HCL : Hid (∀ u, Tn No w u → w.heap.size < u.heap.size → (∀ i, i < 5 → u.cell? ⟨w.heap.size, i, none⟩ = some (.int .u64 (xsOf g q i))) → Calls Tryz.prog 80 #[.pointer (some ⟨p, 0, none⟩), .pointer (some ⟨b, fs.length * 8, none⟩), .pointer (some ⟨cb, g.at_ * 11, none⟩), .slice (some ⟨w.heap.size, 0, none⟩) q.count 5] u fun e w' => (∃ bv, e = .returned (.bool bv)) ∧ PO e w') := hid (fun u t hul hcl' => by
    rw [← hPO]
    refine Calls.mono (R := fun e w' => ∃ bv, e = .returned (.bool bv) ∧ ((bv = true ∧ ∃ fn f, funAt R (xsOf g q 0) = some fn ∧ R[fn]? = some f ∧ f.params = q.count - 1 ∧ True ∧ PL p (N + 8) fb pw R strict { X with fs := fs ++ [newFr fn ((List.range (q.count - 1)).map fun i => xsOf g q (i + 1))] } w L Lw w') ∨ (bv = false ∧ (¬ ∃ fn f, funAt R (xsOf g q 0) = some fn ∧ R[fn]? = some f ∧ f.params = q.count - 1 ∧ True) ∧ Tn No w w'))) ?_ (fun e w' z => ⟨by obtain ⟨bv, e, _⟩ := z; exact ⟨bv, e⟩, z⟩)
    have hav : AW u L Lw w.heap.size 0 (xsOf g q 0 :: (List.range (q.count - 1)).map fun i => xsOf g q (i + 1)) := by
      refine ⟨hul, hox.1, hox.2, fun i v e => ?_, fun v hv => ?_⟩
      · cases i with
        | zero => simp at e; rw [← e, Nat.zero_add]; exact hcl' 0 (by omega)
        | succ i =>
          rw [List.getElem?_cons_succ, List.getElem?_map] at e
          cases er : (List.range (q.count - 1))[i]? with
          | none => rw [er] at e; cases e
          | some x =>
            rw [er] at e
            obtain ⟨h1, h2⟩ := List.getElem?_eq_some_iff.1 er
            simp at h1 h2
            subst h2
            simp only [Option.map_some, Option.some.injEq] at e
            rw [← e, Nat.zero_add]
            exact hcl' _ (by omega)
      · rcases List.mem_cons.1 hv with rfl | hv
        · exact ⟨(huu 0).1, (huu 0).2⟩
        · obtain ⟨i, _, rfl⟩ := List.mem_map.1 hv
          exact ⟨(huu _).1, (huu _).2⟩
    have := call25 hR (by have := (List.getElem?_eq_some_iff.1 hg).1; omega) (h.no t) hf (by omega) q hk hto cb (g.at_ * 11) (hsi.no t).q w.heap.size 0 (xsOf g q 0) _ hav (by simp; omega) hN
    rw [show ((List.range (q.count - 1)).map fun i => xsOf g q (i + 1)).length + 1 = q.count by simp; omega] at this
    refine this.mono ?_
    rintro e w' (⟨fn, f, a1, a2, a3, a4, rfl, a6⟩ | ⟨a1, rfl, a3⟩)
    · exact ⟨true, rfl, .inl ⟨rfl, fn, f, a1, a2, by rw [a3]; simp, a4, a6.trans t.any (fun _ _ a b => ⟨a, b⟩)⟩⟩
    · refine ⟨false, rfl, .inr ⟨rfl, fun ⟨fn, f, b1, b2, b3, b4⟩ => a1 ⟨fn, f, b1, b2, by rw [b3]; simp, b4⟩, t.then a3⟩⟩)
  rw [hPO]
  clear hPO huu hox hc1 hto hm
  obtain ⟨xs, hxs⟩ : ∃ xs, xsOf g q = xs := ⟨_, rfl⟩
  have hx0 : ∀ i, q.count ≤ i → xs i = 0 := fun i hi => by rw [← hxs]; unfold xsOf; rw [if_neg (by omega)]
  have hfr := hwf.fr

  rw [hxs] at HGET HXN
  rw [hxs] at HCL
  obtain ⟨n, hn⟩ : ∃ n, fs.length = n := ⟨_, rfl⟩
  obtain ⟨cl, hc⟩ : ∃ cl, rf.code.length = cl := ⟨_, rfl⟩
  obtain ⟨a, ha⟩ : ∃ a, g.at_ = a := ⟨_, rfl⟩
  obtain ⟨cnt, hct⟩ : ∃ cnt, q.count = cnt := ⟨_, rfl⟩
  obtain ⟨fn, hfn⟩ : ∃ fn, g.fn = fn := ⟨_, rfl⟩
  obtain ⟨frm, hfm⟩ : ∃ frm, q.frm = frm := ⟨_, rfl⟩
  have s0 := (HSI.out w (Tn.refl _ _)).ov
  have s1 := (HSI.out w (Tn.refl _ _)).pl
  have s2 := (HSI.out w (Tn.refl _ _)).bl
  have s3 := (HSI.out w (Tn.refl _ _)).fl
  have s4 := (HSI.out w (Tn.refl _ _)).cl
  have s5 := (HSI.out w (Tn.refl _ _)).f0
  have s6 := (HSI.out w (Tn.refl _ _)).f1
  have s7 := (HSI.out w (Tn.refl _ _)).cd
  have s8 : ∀ k, ((w.drewN k).alloc (.cells #[.int .u64 0, .int .u64 0, .int .u64 0, .int .u64 0, .int .u64 0] 182)).cell? ⟨cb, g.at_ * 11 + 2, none⟩ = some (.int .u8 (q.count : Int)) := fun k => (HSI.out _ (((Tn.refl No w).drewN k).alloc _)).q.k2
  rw [hn] at s0 s5 s6 hoc hmost
  rw [hfn] at s5 s7
  rw [ha] at s6 s8 hat
  rw [hc] at s7 hcl hcc hat
  rw [hct] at s8 hcnt hx0
  rw [hfm] at hfr
  have a0 : (0 : Int) ≤ (n : Int) := by omega
  have y3' : (n : Int) ≤ 1048575 := by omega
  have y4' : (n : Int) ≤ 4611686018427387904 := Int.le_trans y3' (by decide)
  have b0 : (0 : Int) ≤ (a : Int) := by omega
  have b1' : (a : Int) < (cl : Int) := by omega
  have b2 : (cl : Int) ≤ 4194304 := by omega
  have ci : (cnt : Int) ≤ 5 := by omega
  have a1 : (n : Int) < (n : Int) + 1 := by omega
  have a2 : ((n + 1 : Nat) : Int) - 1 = (n : Int) := by omega
  have w0 := wrap64_small (n : Int) a0 y4'
  have w1' := wrapi_small (n : Int) a0 y4'
  have w2' : IntKind.i64.wrap ((n : Int) + 1 - 1) = n := by rw [Int.add_sub_cancel]; exact w1'

  have HNM := hid (And.intro hn (And.intro hfn (And.intro ha hfm)))
  have HCT := hid hct
  have HKD := hid hk
  clear hwf hR h hf hg hq hset hsi hxs hn hc ha hct hfn hfm hlc hk
  go_enter Tryz.func48, Tryz.ntmps48
  go_wp2_with fail
  go_quiet (fail)
  go_wp2_with fail
  go_quiet (fail)
  go_wp2_with fail

  clear s0 s5 s6 s7 s8 w0 w1' w2' a1 a2 s1 s2 s3 s4
  go_loopw [6, 7, 8, 38] (fun _ _ _ i wr => ∃ j : Nat, j ≤ cnt ∧ i = .int .u8 (j : Int) ∧ Tn No w wr ∧ XA w.heap.size xs j wr) (fun _ _ _ i _ => cnt - (intOf i).toNat)
  case atStart => exact ⟨0, by omega, rfl, (by repeat (first | exact Tn.refl _ _ | apply Tn.drew | apply Tn.drewN | apply Tn.alloc | (refine Tn.then ?_ (by assumption)) | (refine Tn.thenNo ?_ (by assumption)))), HXN.out _ (by repeat (first | exact Tn.refl _ _ | apply Tn.drew | apply Tn.drewN | apply Tn.alloc | (refine Tn.then ?_ (by assumption)) | (refine Tn.thenNo ?_ (by assumption)))) rfl⟩
  case round =>
    obtain ⟨j, hj, rfl, twr, hxa⟩ := hrel
    by_cases hlt : j < cnt
    · have hsw := HSI.out wr twr
      have t0 := hsw.f0
      have t1 := hsw.bl
      have t2 := hsw.cl
      have t3 := hsw.q.k6 j (by omega)
      rw [HNM.out.1] at t0
      rw [HNM.out.2.1] at t0
      rw [HNM.out.2.2.1, HNM.out.2.2.2] at t3
      have HG := hid (fun u t => HGET.out u j (twr.then t) (by have := HCT.out; omega))
      rw [HNM.out.1, HNM.out.2.2.2] at HG
      have x0 := hxa.at' j (by omega)
      rw [if_neg (by omega)] at x0
      have x1 := hxa.lt
      have x2 := hxa.fz j
      have HST := hid (fun u (t : Tn No wr u) => (hxa.no t).step (j := j) (by omega))
      have HTW := hid twr
      have j1 : (j : Int) < (cnt : Int) := by omega
      have j2 : (j : Int) < 5 := by omega
      have j3 : (0 : Int) ≤ (frm j : Int) := by omega
      have j4 : (frm j : Int) ≤ 4294967295 := by have := hfr j (by omega); omega
      have j5 := wrapu_small (frm j : Int) j3 (by omega)
      clear hsw hxa twr
      go_wp2_with fail
      go_quiet ((go_at_call 78; exact Calls.quiet_of_same (HG.out _ (by repeat (first | exact Tn.refl _ _ | apply Tn.drew | apply Tn.drewN | apply Tn.alloc | (refine Tn.then ?_ (by assumption)) | (refine Tn.thenNo ?_ (by assumption)))))))
      go_wp2_with fail
      go_roundw
      case rel => exact ⟨j + 1, by omega, by go_num, ((HTW.out.drewN _).set _ _ (by intro h; simp at h)), HST.out _ ((Tn.refl No wr).drewN _)⟩
      case measure => simp [intOf]; omega
    · obtain rfl : j = cnt := by omega
      have hsw := HSI.out wr twr
      have hxi : ∀ i, i < 5 → wr.cell? ⟨w.heap.size, i, none⟩ = some (.int .u64 (xs i)) := fun i hi => by
        rw [hxa.at' i hi]
        by_cases e : i < j
        · rw [if_pos e]
        · rw [if_neg e, hx0 i (by omega)]
      have HTW := hid twr
      have t0 := hsw.f0
      have t1 := hsw.f1
      have t2 := hsw.z1
      have t3 := hsw.bl
      have t4 := hsw.cl
      have t5 := hsw.q.k0
      rw [HNM.out.1, HNM.out.2.1] at t0
      rw [HNM.out.1, HNM.out.2.2.1] at t1
      rw [HNM.out.1] at t2
      rw [HNM.out.2.2.1, HKD.out] at t5
      have xl := hxa.lt

      have t7 := hsw.q.k2
      rw [HNM.out.2.2.1, HCT.out] at t7
      have HC := HCL.out wr HTW.out xl hxi
      rw [HNM.out.1, HNM.out.2.2.1, HCT.out] at HC
      have HC1 := hid HC
      have c1 : (j : Int) ≤ 5 := by omega
      clear hsw hxa twr hxi HGET HXN HSI HCL hx0 HC
      go_wp2_with (go_at_call 80; refine HC1.out.mono ?_; rintro e w2 ⟨⟨bv, rfl⟩, hpo⟩; have HPO := hid hpo; clear hpo)
      exact HPO.out
end
end Go.Proofs.YtoidddfpekbliaaGreat
