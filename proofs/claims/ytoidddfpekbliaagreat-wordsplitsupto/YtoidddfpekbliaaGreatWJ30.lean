/-
  word: a step: a register is set. Made by gen_wstep.py.
-/
import Derived.Test.YtoidddfpekbliaaGreatWJ25
import Derived.BigQuiet
import Derived.Test.YtoidddfpekbliaaGreatWJ26
import Derived.Test.YtoidddfpekbliaaGreatWJ27
import Derived.Test.YtoidddfpekbliaaGreatWJ28
import Derived.Test.YtoidddfpekbliaaGreatWJ29
import Derived.Test.YtoidddfpekbliaaGreatWJ19
namespace Go.Proofs.YtoidddfpekbliaaGreat
set_option linter.unusedSimpArgs false
set_option linter.unusedVariables false
open Go.RowKit
attribute [local go_sem ↓] Go.wp_at_zero Go.wp_at_succ

section
variable {p N fb pw : Nat} {R : List RFun} {strict : Bool} {X : PSt} {b cap : Nat} {vd vh : Value} {fc c : Nat → Value} {w : World} {L : Nat → Option Lb} {Lw : Nat → Option Lab} {fs : List Fr} {g : Fr}
variable {rf : RFun} {q : RCode}

set_option maxHeartbeats 8000000 in
set_option maxRecDepth 100000 in
theorem step_noval (hR : RWF R) (h : PR p N fb pw R strict X b cap vd vh fc c w L Lw) (hf : X.fs = fs ++ [g]) (hg : R[g.fn]? = some rf) (hq : rf.code[g.at_]? = some q) (hset : ∀ i, i < q.count → (g.regs (q.frm i)).isSome = true) {K : Nat} (hk : isVal q.kind) (hw : WF X.S) (hN : N ≤ 545460846592) (hNK : N + 2 ≤ K) (hK : ∀ n : Nat, n ≤ 2147483648 → X.M.there (xsOf g q 1) n = true → N + 2 * n + 4 ≤ K) (v : Int) (X' : PSt) (hV : X.val g q (xsOf g q) = (v, false, X')) : Calls Tryz.prog 48 #[.pointer (some ⟨p, 0, none⟩)] w fun e w' => e = .returned (.bool false) ∧ PL p K fb pw R strict X' w L Lw w' := by
  have hwf := (hR.fn g.fn rf hg).2.2.2 g.at_ q hq
  have hcl := (hR.fn g.fn rf hg).2.2.1
  obtain ⟨cb, ccap, ocap, hsi, hcc, hoc, hmost, hlc⟩ := h.si hf hg hq
  have hat : g.at_ < rf.code.length := (List.getElem?_eq_some_iff.1 hq).1
  have hcnt := hwf.cnt
  have HSI : Hid (∀ u, Tn No w u → SI p b fb fs.length cb ccap ocap g rf q u) := hid (fun u t => hsi.no t)
  have HXN : Hid (∀ u, Tn No w u → u.heap.size = w.heap.size → XA w.heap.size (xsOf g q) 0 (u.alloc (.cells #[.int .u64 0, .int .u64 0, .int .u64 0, .int .u64 0, .int .u64 0] 182))) := hid (fun u t e => by rw [← e]; exact XA.new u _ _)

  have HGET : Hid (∀ u j, Tn No w u → j < q.count → Calls Tryz.prog 78 #[.pointer (some ⟨b, fs.length * 8 + 2, none⟩), .int .u64 (q.frm j : Int)] u fun e w' => e = .returned (.tuple #[.int .u64 (xsOf g q j), .bool true]) ∧ w' = u) := hid (fun u j t hj => by
    have := h.gets hf u t (q.frm j) (by have := hwf.fr j (by omega); omega)
    rw [hset j hj] at this
    have e : xsOf g q j = (g.regs (q.frm j)).getD 0 := by unfold xsOf; rw [if_pos hj]
    rw [e]
    exact this)

  have hox := h.newb
  have huu := fun i (_ : i < 5) => xsOf_ok h hf q i
  have hd4 := hwf.d
  have hkd : q.kind ≤ 255 := hwf.kd
  have HVL : Hid (∀ u, Tn No w u → VI u cb (g.at_ * 11) w.heap.size q (xsOf g q) → Calls Tryz.prog 83 #[.pointer (some ⟨p, 0, none⟩), .pointer (some ⟨b, fs.length * 8, none⟩), .pointer (some ⟨cb, g.at_ * 11, none⟩), .pointer (some ⟨w.heap.size, 0, none⟩)] u fun e w' => e = .returned (.tuple #[.int .u64 v, .bool false]) ∧ ∀ u2, Tn No w' u2 → PL p K fb pw R strict X' w L Lw u2) := hid (fun u t hvi => by
    have := value_all (K := K) hwf (h.no t) hf hvi hk hlc hox hw hN huu hNK hK
    rw [hV] at this
    refine this.mono ?_
    rintro e w' ⟨rfl, hq2⟩
    exact ⟨rfl, fun u2 t2 => (hq2.then_no t2).trans t.any (fun _ _ a b => ⟨a, b⟩)⟩)
  have HKI := hid hk
  clear hox huu hw hK hV
  obtain ⟨xs, hxs⟩ : ∃ xs, xsOf g q = xs := ⟨_, rfl⟩
  have hx0 : ∀ i, q.count ≤ i → xs i = 0 := fun i hi => by rw [← hxs]; unfold xsOf; rw [if_neg (by omega)]
  have hfr := hwf.fr

  rw [hxs] at HGET HXN
  rw [hxs] at HVL
  obtain ⟨n, hn⟩ : ∃ n, fs.length = n := ⟨_, rfl⟩
  obtain ⟨cl, hc⟩ : ∃ cl, rf.code.length = cl := ⟨_, rfl⟩
  obtain ⟨a, ha⟩ : ∃ a, g.at_ = a := ⟨_, rfl⟩
  obtain ⟨cnt, hct⟩ : ∃ cnt, q.count = cnt := ⟨_, rfl⟩
  obtain ⟨fn, hfn⟩ : ∃ fn, g.fn = fn := ⟨_, rfl⟩
  obtain ⟨frm, hfm⟩ : ∃ frm, q.frm = frm := ⟨_, rfl⟩
  have s0 := (HSI.out w (Tn.refl _ _)).ov
  have s1 := (HSI.out w (Tn.refl _ _)).pl
  have s2 := (HSI.out w (Tn.refl _ _)).bl
  have s3 := (HSI.out w (Tn.refl _ _)).fl
  have s4 := (HSI.out w (Tn.refl _ _)).cl
  have s5 := (HSI.out w (Tn.refl _ _)).f0
  have s6 := (HSI.out w (Tn.refl _ _)).f1
  have s7 := (HSI.out w (Tn.refl _ _)).cd
  have s8 : ∀ k, ((w.drewN k).alloc (.cells #[.int .u64 0, .int .u64 0, .int .u64 0, .int .u64 0, .int .u64 0] 182)).cell? ⟨cb, g.at_ * 11 + 2, none⟩ = some (.int .u8 (q.count : Int)) := fun k => (HSI.out _ (((Tn.refl No w).drewN k).alloc _)).q.k2
  rw [hn] at s0 s5 s6 hoc hmost
  rw [hfn] at s5 s7
  rw [ha] at s6 s8 hat
  rw [hc] at s7 hcl hcc hat
  rw [hct] at s8 hcnt hx0
  rw [hfm] at hfr
  have a0 : (0 : Int) ≤ (n : Int) := by omega
  have y3' : (n : Int) ≤ 1048575 := by omega
  have y4' : (n : Int) ≤ 4611686018427387904 := Int.le_trans y3' (by decide)
  have b0 : (0 : Int) ≤ (a : Int) := by omega
  have b1' : (a : Int) < (cl : Int) := by omega
  have b2 : (cl : Int) ≤ 4194304 := by omega
  have ci : (cnt : Int) ≤ 5 := by omega
  have a1 : (n : Int) < (n : Int) + 1 := by omega
  have a2 : ((n + 1 : Nat) : Int) - 1 = (n : Int) := by omega
  have w0 := wrap64_small (n : Int) a0 y4'
  have w1' := wrapi_small (n : Int) a0 y4'
  have w2' : IntKind.i64.wrap ((n : Int) + 1 - 1) = n := by rw [Int.add_sub_cancel]; exact w1'

  have HNM := hid (And.intro hn (And.intro hfn (And.intro ha hfm)))
  have HCT := hid hct
  clear hwf hR h hf hg hq hset hsi hxs hn hc ha hct hfn hfm hlc hk
  go_enter Tryz.func48, Tryz.ntmps48
  go_wp2_with fail
  go_quiet (fail)
  go_wp2_with fail
  go_quiet (fail)
  go_wp2_with fail

  clear s0 s5 s6 s7 s8 w0 w1' w2' a1 a2 s1 s2 s3 s4
  go_loopw [6, 7, 8, 38] (fun _ _ _ i wr => ∃ j : Nat, j ≤ cnt ∧ i = .int .u8 (j : Int) ∧ Tn No w wr ∧ XA w.heap.size xs j wr) (fun _ _ _ i _ => cnt - (intOf i).toNat)
  case atStart => exact ⟨0, by omega, rfl, (by repeat (first | exact Tn.refl _ _ | apply Tn.drew | apply Tn.drewN | apply Tn.alloc | (refine Tn.then ?_ (by assumption)) | (refine Tn.thenNo ?_ (by assumption)))), HXN.out _ (by repeat (first | exact Tn.refl _ _ | apply Tn.drew | apply Tn.drewN | apply Tn.alloc | (refine Tn.then ?_ (by assumption)) | (refine Tn.thenNo ?_ (by assumption)))) rfl⟩
  case round =>
    obtain ⟨j, hj, rfl, twr, hxa⟩ := hrel
    by_cases hlt : j < cnt
    · have hsw := HSI.out wr twr
      have t0 := hsw.f0
      have t1 := hsw.bl
      have t2 := hsw.cl
      have t3 := hsw.q.k6 j (by omega)
      rw [HNM.out.1] at t0
      rw [HNM.out.2.1] at t0
      rw [HNM.out.2.2.1, HNM.out.2.2.2] at t3
      have HG := hid (fun u t => HGET.out u j (twr.then t) (by have := HCT.out; omega))
      rw [HNM.out.1, HNM.out.2.2.2] at HG
      have x0 := hxa.at' j (by omega)
      rw [if_neg (by omega)] at x0
      have x1 := hxa.lt
      have x2 := hxa.fz j
      have HST := hid (fun u (t : Tn No wr u) => (hxa.no t).step (j := j) (by omega))
      have HTW := hid twr
      have j1 : (j : Int) < (cnt : Int) := by omega
      have j2 : (j : Int) < 5 := by omega
      have j3 : (0 : Int) ≤ (frm j : Int) := by omega
      have j4 : (frm j : Int) ≤ 4294967295 := by have := hfr j (by omega); omega
      have j5 := wrapu_small (frm j : Int) j3 (by omega)
      clear hsw hxa twr
      go_wp2_with fail
      go_quiet ((go_at_call 78; exact Calls.quiet_of_same (HG.out _ (by repeat (first | exact Tn.refl _ _ | apply Tn.drew | apply Tn.drewN | apply Tn.alloc | (refine Tn.then ?_ (by assumption)) | (refine Tn.thenNo ?_ (by assumption)))))))
      go_wp2_with fail
      go_roundw
      case rel => exact ⟨j + 1, by omega, by go_num, ((HTW.out.drewN _).set _ _ (by intro h; simp at h)), HST.out _ ((Tn.refl No wr).drewN _)⟩
      case measure => simp [intOf]; omega
    · obtain rfl : j = cnt := by omega
      have hsw := HSI.out wr twr
      have hxi : ∀ i, i < 5 → wr.cell? ⟨w.heap.size, i, none⟩ = some (.int .u64 (xs i)) := fun i hi => by
        rw [hxa.at' i hi]
        by_cases e : i < j
        · rw [if_pos e]
        · rw [if_neg e, hx0 i (by omega)]
      have HTW := hid twr
      have t0 := hsw.f0
      have t1 := hsw.f1
      have t2 := hsw.z1
      have t3 := hsw.bl
      have t4 := hsw.cl
      have t5 := hsw.q.k0
      rw [HNM.out.1, HNM.out.2.1] at t0
      rw [HNM.out.1, HNM.out.2.2.1] at t1
      rw [HNM.out.1] at t2
      have xl := hxa.lt

      have HVI : Hid (VI wr cb (g.at_ * 11) w.heap.size q xs) := hid ⟨hsw.cl, hsw.q, xl, hxi⟩
      have HVA := HVL.out wr HTW.out HVI.out
      rw [HNM.out.1, HNM.out.2.2.1] at HVA
      have HVB := hid HVA
      have t8 := hsw.q.k0
      rw [HNM.out.2.2.1] at t8
      have pl := hsw.pl
      obtain ⟨kd, hkk⟩ : ∃ kd, q.kind = kd := ⟨_, rfl⟩
      have hiv := HKI.out
      unfold isVal at hiv
      rw [hkk] at t8 hiv
      obtain ⟨ki, hki⟩ : ∃ ki : Int, (kd : Int) = ki := ⟨_, rfl⟩
      rw [hki] at t8
      have n20 : (ki == 20) = false := by simp; omega
      have n21 : (ki == 21) = false := by simp; omega
      have n22 : (ki == 22) = false := by simp; omega
      have n23 : (ki == 23) = false := by simp; omega
      have n24 : (ki == 24) = false := by simp; omega
      have n25 : (ki == 25) = false := by simp; omega
      have n26 : (ki == 26) = false := by simp; omega
      have n18 : (ki == 18) = false := by simp; omega
      have n32 : (ki == 32) = false := by simp; omega
      obtain ⟨qd, hqd⟩ : ∃ qd, q.d = qd := ⟨_, rfl⟩
      rw [hqd] at hd4

      have d0 : (0 : Int) ≤ (qd : Int) := by omega
      have d1 : (qd : Int) ≤ 18446744073709551615 := by omega
      have d2 := wrapu_small (qd : Int) d0 d1
      have a9 : (a : Int) + 1 ≤ 4194305 := by omega
      clear hsw hxa twr hxi HGET HXN HSI HVL HVA HVI hx0 hkk hiv hki hqd hd4 t5 d1
      go_wp2_with (go_at_call 83; refine HVB.out.mono ?_; rintro e w2 ⟨rfl, hfin⟩; have HF := hid hfin; clear hfin)
      go_ret
      exact ⟨rfl, HF.out _ (by repeat (first | exact Tn.refl _ _ | apply Tn.drew | apply Tn.drewN | apply Tn.alloc | (refine Tn.then ?_ (by assumption)) | (refine Tn.thenNo ?_ (by assumption))))⟩
end
end Go.Proofs.YtoidddfpekbliaaGreat
namespace Go.Proofs.YtoidddfpekbliaaGreat
set_option linter.unusedSimpArgs false
set_option linter.unusedVariables false
open Go.RowKit
attribute [local go_sem ↓] Go.wp_at_zero Go.wp_at_succ

section
variable {p N fb pw : Nat} {R : List RFun} {strict : Bool} {X : PSt} {b cap : Nat} {vd vh : Value} {fc c : Nat → Value} {w : World} {L : Nat → Option Lb} {Lw : Nat → Option Lab} {fs : List Fr} {g : Fr}
variable {rf : RFun} {q : RCode}

set_option maxHeartbeats 8000000 in
set_option maxRecDepth 100000 in
theorem step_unset (hR : RWF R) (h : PR p N fb pw R strict X b cap vd vh fc c w L Lw) (hf : X.fs = fs ++ [g]) (hg : R[g.fn]? = some rf) (hq : rf.code[g.at_]? = some q) (j0 : Nat) (hj0 : j0 < q.count) (hno : g.regs (q.frm j0) = none) (hset : ∀ i, i < j0 → (g.regs (q.frm i)).isSome = true) : Calls Tryz.prog 48 #[.pointer (some ⟨p, 0, none⟩)] w fun e w' => e = .returned (.bool false) ∧ Tn No w w' := by
  have hwf := (hR.fn g.fn rf hg).2.2.2 g.at_ q hq
  have hcl := (hR.fn g.fn rf hg).2.2.1
  obtain ⟨cb, ccap, ocap, hsi, hcc, hoc, hmost, hlc⟩ := h.si hf hg hq
  have hat : g.at_ < rf.code.length := (List.getElem?_eq_some_iff.1 hq).1
  have hcnt := hwf.cnt
  have HSI : Hid (∀ u, Tn No w u → SI p b fb fs.length cb ccap ocap g rf q u) := hid (fun u t => hsi.no t)
  have HXN : Hid (∀ u, Tn No w u → u.heap.size = w.heap.size → XA w.heap.size (xsOf g q) 0 (u.alloc (.cells #[.int .u64 0, .int .u64 0, .int .u64 0, .int .u64 0, .int .u64 0] 182))) := hid (fun u t e => by rw [← e]; exact XA.new u _ _)

  have HGET : Hid (∀ u j, Tn No w u → j < j0 → Calls Tryz.prog 78 #[.pointer (some ⟨b, fs.length * 8 + 2, none⟩), .int .u64 (q.frm j : Int)] u fun e w' => e = .returned (.tuple #[.int .u64 (xsOf g q j), .bool true]) ∧ w' = u) := hid (fun u j t hj => by
    have := h.gets hf u t (q.frm j) (by have := hwf.fr j (by omega); omega)
    rw [hset j hj] at this
    have e : xsOf g q j = (g.regs (q.frm j)).getD 0 := by unfold xsOf; rw [if_pos (by omega)]
    rw [e]
    exact this)

  have HGN : Hid (∀ u, Tn No w u → Calls Tryz.prog 78 #[.pointer (some ⟨b, fs.length * 8 + 2, none⟩), .int .u64 (q.frm j0 : Int)] u fun e w' => e = .returned (.tuple #[.int .u64 0, .bool false]) ∧ w' = u) := hid (fun u t => by
    have := h.gets hf u t (q.frm j0) (by have := hwf.fr j0 (by omega); omega)
    rw [hno] at this
    exact this)

  obtain ⟨xs, hxs⟩ : ∃ xs, xsOf g q = xs := ⟨_, rfl⟩
  have hfr := hwf.fr

  rw [hxs] at HGET HXN
  obtain ⟨n, hn⟩ : ∃ n, fs.length = n := ⟨_, rfl⟩
  obtain ⟨cl, hc⟩ : ∃ cl, rf.code.length = cl := ⟨_, rfl⟩
  obtain ⟨a, ha⟩ : ∃ a, g.at_ = a := ⟨_, rfl⟩
  obtain ⟨cnt, hct⟩ : ∃ cnt, q.count = cnt := ⟨_, rfl⟩
  obtain ⟨fn, hfn⟩ : ∃ fn, g.fn = fn := ⟨_, rfl⟩
  obtain ⟨frm, hfm⟩ : ∃ frm, q.frm = frm := ⟨_, rfl⟩
  have s0 := (HSI.out w (Tn.refl _ _)).ov
  have s1 := (HSI.out w (Tn.refl _ _)).pl
  have s2 := (HSI.out w (Tn.refl _ _)).bl
  have s3 := (HSI.out w (Tn.refl _ _)).fl
  have s4 := (HSI.out w (Tn.refl _ _)).cl
  have s5 := (HSI.out w (Tn.refl _ _)).f0
  have s6 := (HSI.out w (Tn.refl _ _)).f1
  have s7 := (HSI.out w (Tn.refl _ _)).cd
  have s8 : ∀ k, ((w.drewN k).alloc (.cells #[.int .u64 0, .int .u64 0, .int .u64 0, .int .u64 0, .int .u64 0] 182)).cell? ⟨cb, g.at_ * 11 + 2, none⟩ = some (.int .u8 (q.count : Int)) := fun k => (HSI.out _ (((Tn.refl No w).drewN k).alloc _)).q.k2
  rw [hn] at s0 s5 s6 hoc hmost
  rw [hfn] at s5 s7
  rw [ha] at s6 s8 hat
  rw [hc] at s7 hcl hcc hat
  rw [hct] at s8 hcnt hj0
  rw [hfm] at hfr
  have a0 : (0 : Int) ≤ (n : Int) := by omega
  have y3' : (n : Int) ≤ 1048575 := by omega
  have y4' : (n : Int) ≤ 4611686018427387904 := Int.le_trans y3' (by decide)
  have b0 : (0 : Int) ≤ (a : Int) := by omega
  have b1' : (a : Int) < (cl : Int) := by omega
  have b2 : (cl : Int) ≤ 4194304 := by omega
  have ci : (cnt : Int) ≤ 5 := by omega
  have a1 : (n : Int) < (n : Int) + 1 := by omega
  have a2 : ((n + 1 : Nat) : Int) - 1 = (n : Int) := by omega
  have w0 := wrap64_small (n : Int) a0 y4'
  have w1' := wrapi_small (n : Int) a0 y4'
  have w2' : IntKind.i64.wrap ((n : Int) + 1 - 1) = n := by rw [Int.add_sub_cancel]; exact w1'

  have HNM := hid (And.intro hn (And.intro hfn (And.intro ha hfm)))
  clear hwf hR h hf hg hq hset hsi hxs hn hc ha hct hfn hfm hlc hno
  go_enter Tryz.func48, Tryz.ntmps48
  go_wp2_with fail
  go_quiet (fail)
  go_wp2_with fail
  go_quiet (fail)
  go_wp2_with fail

  clear s0 s5 s6 s7 s8 w0 w1' w2' a1 a2 s1 s2 s3 s4
  go_loopw [6, 7, 8, 38] (fun _ _ _ i wr => ∃ j : Nat, j ≤ j0 ∧ i = .int .u8 (j : Int) ∧ Tn No w wr ∧ XA w.heap.size xs j wr) (fun _ _ _ i _ => cnt - (intOf i).toNat)
  case atStart => exact ⟨0, by omega, rfl, (by repeat (first | exact Tn.refl _ _ | apply Tn.drew | apply Tn.drewN | apply Tn.alloc | (refine Tn.then ?_ (by assumption)) | (refine Tn.thenNo ?_ (by assumption)))), HXN.out _ (by repeat (first | exact Tn.refl _ _ | apply Tn.drew | apply Tn.drewN | apply Tn.alloc | (refine Tn.then ?_ (by assumption)) | (refine Tn.thenNo ?_ (by assumption)))) rfl⟩
  case round =>
    obtain ⟨j, hj, rfl, twr, hxa⟩ := hrel
    by_cases hlt : j < j0
    · have hsw := HSI.out wr twr
      have t0 := hsw.f0
      have t1 := hsw.bl
      have t2 := hsw.cl
      have t3 := hsw.q.k6 j (by omega)
      rw [HNM.out.1] at t0
      rw [HNM.out.2.1] at t0
      rw [HNM.out.2.2.1, HNM.out.2.2.2] at t3
      have HG := hid (fun u t => HGET.out u j (twr.then t) hlt)
      rw [HNM.out.1, HNM.out.2.2.2] at HG
      have x0 := hxa.at' j (by omega)
      rw [if_neg (by omega)] at x0
      have x1 := hxa.lt
      have x2 := hxa.fz j
      have HST := hid (fun u (t : Tn No wr u) => (hxa.no t).step (j := j) (by omega))
      have HTW := hid twr
      have j1 : (j : Int) < (cnt : Int) := by omega
      have j2 : (j : Int) < 5 := by omega
      have j3 : (0 : Int) ≤ (frm j : Int) := by omega
      have j4 : (frm j : Int) ≤ 4294967295 := by have := hfr j (by omega); omega
      have j5 := wrapu_small (frm j : Int) j3 (by omega)
      clear hsw hxa twr
      go_wp2_with fail
      go_quiet ((go_at_call 78; exact Calls.quiet_of_same (HG.out _ (by repeat (first | exact Tn.refl _ _ | apply Tn.drew | apply Tn.drewN | apply Tn.alloc | (refine Tn.then ?_ (by assumption)) | (refine Tn.thenNo ?_ (by assumption)))))))
      go_wp2_with fail
      go_roundw
      case rel => exact ⟨j + 1, by omega, by go_num, ((HTW.out.drewN _).set _ _ (by intro h; simp at h)), HST.out _ ((Tn.refl No wr).drewN _)⟩
      case measure => simp [intOf]; omega
    · obtain rfl : j = j0 := by omega
      have hsw := HSI.out wr twr
      have t0 := hsw.f0
      have t1 := hsw.bl
      have t2 := hsw.cl
      have t3 := hsw.q.k6 j (by omega)
      rw [HNM.out.1] at t0
      rw [HNM.out.2.1] at t0
      rw [HNM.out.2.2.1, HNM.out.2.2.2] at t3
      have HG := hid (fun u t => HGN.out u (twr.then t))
      rw [HNM.out.1, HNM.out.2.2.2] at HG
      have x1 := hxa.lt
      have HTW := hid twr
      have j1 : (j : Int) < (cnt : Int) := by omega
      have j2 : (j : Int) < 5 := by omega
      have j3 : (0 : Int) ≤ (frm j : Int) := by omega
      have j4 : (frm j : Int) ≤ 4294967295 := by have := hfr j (by omega); omega
      have j5 := wrapu_small (frm j : Int) j3 (by omega)
      clear hsw hxa twr HGET HXN HSI HGN
      go_wp2_with fail
      go_quiet ((go_at_call 78; exact Calls.quiet_of_same (HG.out _ (by repeat (first | exact Tn.refl _ _ | apply Tn.drew | apply Tn.drewN | apply Tn.alloc | (refine Tn.then ?_ (by assumption)) | (refine Tn.thenNo ?_ (by assumption)))))))
      go_wp2_with fail
      go_ret
      exact ⟨rfl, HTW.out.drewN _⟩
end
end Go.Proofs.YtoidddfpekbliaaGreat
namespace Go.Proofs.YtoidddfpekbliaaGreat
set_option linter.unusedSimpArgs false
set_option linter.unusedVariables false
open Go.RowKit

/-- the function of so many parameters at an address -/
def target (R : List RFun) (x : Int) (n : Nat) : Option Nat := (funAt R x).bind fun fn => (R[fn]?).bind fun f => if f.params = n then some fn else none
/-- a step of an instruction all of whose registers are set -/
noncomputable def stepQ (R : List RFun) (strict : Bool) (X : PSt) (fs : List Fr) (g : Fr) (q : RCode) : Option PSt :=
  if q.kind = 20 then some { X with fs := fs ++ [{ g with at_ := q.to_.toNat }] }
  else if q.kind = 21 then some { X with fs := fs ++ [{ g with at_ := if holdsF q.how (xsOf g q 0) (xsOf g q 1) = true then q.to_.toNat else g.at_ + 1 }] }
  else if q.kind = 22 then (if X.fs.length < 1048576 then some { X with fs := fs ++ [g.after strict] ++ [newFr q.to_.toNat ((List.range q.count).map (xsOf g q))] } else none)
  else if q.kind = 23 then (target R (xsOf g q 0) (q.count - 1)).bind fun fn => if X.fs.length < 1048576 then some { X with fs := fs ++ [g.after strict] ++ [newFr fn ((List.range (q.count - 1)).map fun i => xsOf g q (i + 1))] } else none
  else if q.kind = 24 then some { X with fs := fs ++ [newFr q.to_.toNat ((List.range q.count).map (xsOf g q))] }
  else if q.kind = 25 then (target R (xsOf g q 0) (q.count - 1)).map fun fn => { X with fs := fs ++ [newFr fn ((List.range (q.count - 1)).map fun i => xsOf g q (i + 1))] }
  else if q.kind = 26 then some (X.back R (xsOf g q 0))
  else if q.kind = 18 then (X.M.store (IntKind.u64.wrap (xsOf g q 0 + q.imm)) q.how (xsOf g q 1)).map fun M' => { X with M := M', fs := fs ++ [{ g with at_ := g.at_ + 1 }] }
  else if q.kind = 32 then some { X with fs := fs ++ [{ g.setBank true (upd g.slots q.imm.toNat (some (xsOf g q 0))) with at_ := g.at_ + 1 }] }
  else if (X.val g q (xsOf g q)).2.1 = true then some { (X.val g q (xsOf g q)).2.2 with fs := fs ++ [{ g.setBank false (upd g.regs q.d (some (X.val g q (xsOf g q)).1)) with at_ := g.at_ + 1 }] } else none
/-- all registers that an instruction reads are set -/
def allSet (g : Fr) (q : RCode) : Bool := (List.range q.count).all fun i => (g.regs (q.frm i)).isSome
noncomputable def stepF (R : List RFun) (strict : Bool) (X : PSt) (fs : List Fr) (g : Fr) (q : RCode) : Option PSt := if allSet g q = true then stepQ R strict X fs g q else none
noncomputable def PSt.step (R : List RFun) (strict : Bool) (X : PSt) : Option PSt :=
  match X.fs.getLast? with
  | none => none
  | some g => ((R[g.fn]?).bind fun f => f.code[g.at_]?).bind fun q => stepF R strict X X.fs.dropLast g q
/-- kinds that there are -/
def isKind (k : Nat) : Prop := k = 18 ∨ (20 ≤ k ∧ k ≤ 26) ∨ k = 32 ∨ isVal k

theorem target_iff {R : List RFun} {x : Int} {n fn : Nat} : target R x n = some fn ↔ ∃ f, funAt R x = some fn ∧ R[fn]? = some f ∧ f.params = n := by
  unfold target
  cases e : funAt R x with
  | none => simp
  | some m =>
    simp only [Option.bind_some, Option.some.injEq]
    cases e2 : R[m]? with
    | none =>
      simp only [Option.bind_none]
      constructor
      · intro h; cases h
      · rintro ⟨f, rfl, h, _⟩; rw [e2] at h; cases h
    | some f =>
      simp only [Option.bind_some]
      constructor
      · intro h
        split at h
        · rename_i hp
          simp only [Option.some.injEq] at h
          subst h
          exact ⟨f, rfl, e2, hp⟩
        · cases h
      · rintro ⟨f', rfl, h, hp⟩
        rw [e2] at h
        cases h
        rw [if_pos hp]

section
variable {p N fb pw : Nat} {R : List RFun} {strict : Bool} {X : PSt} {b cap : Nat} {vd vh : Value} {fc c : Nat → Value} {w : World} {L : Nat → Option Lb} {Lw : Nat → Option Lab} {fs : List Fr} {g : Fr}
variable {rf : RFun} {q : RCode}

/-- what a step leaves -/
def StepPost (p K fb pw : Nat) (R : List RFun) (strict : Bool) (X : PSt) (o : Option PSt) (w : World) (L : Nat → Option Lb) (Lw : Nat → Option Lab) (e : Ending) (w' : World) : Prop :=
  e = .returned (.bool o.isSome) ∧ PL p K fb pw R strict (o.getD X) w L Lw w'

theorem step_all {K : Nat} (hR : RWF R) (h : PR p N fb pw R strict X b cap vd vh fc c w L Lw) (hf : X.fs = fs ++ [g]) (hg : R[g.fn]? = some rf) (hq : rf.code[g.at_]? = some q) (hk : isKind q.kind) (hwait : fs = [] ∨ ∃ fs' g', fs = fs' ++ [g'] ∧ FWait R g') (hw : WF X.S) (hN : N ≤ 545460846592) (hNK : N + 8 ≤ K) (hK : ∀ n : Nat, n ≤ 2147483648 → X.M.there (xsOf g q 1) n = true → N + 2 * n + 5 ≤ K) (hKK : K < 4611686018426339328) :
    Calls Tryz.prog 48 #[.pointer (some ⟨p, 0, none⟩)] w (StepPost p K fb pw R strict X (stepF R strict X fs g q) w L Lw) := by
  have hwf := (hR.fn g.fn rf hg).2.2.2 g.at_ q hq
  have noX : ∀ {w' : World}, Tn No w w' → PL p K fb pw R strict X w L Lw w' := fun t => (h.plNo t).mono (by omega)
  cases hs : allSet g q with
  | false =>
    have ev : stepF R strict X fs g q = none := by unfold stepF; rw [hs]; rfl
    rw [ev]
    -- the first that isn't set
    have hex : ∃ j, j < q.count ∧ g.regs (q.frm j) = none ∧ ∀ i, i < j → (g.regs (q.frm i)).isSome = true := by
      have key : ∀ m, m ≤ q.count → (∀ i, i < m → (g.regs (q.frm i)).isSome = true) ∨ ∃ j, j < m ∧ g.regs (q.frm j) = none ∧ ∀ i, i < j → (g.regs (q.frm i)).isSome = true := by
        intro m
        induction m with
        | zero => intro _; exact .inl (fun i hi => absurd hi (Nat.not_lt_zero i))
        | succ m ih =>
          intro hm
          rcases ih (by omega) with a | ⟨j, a1, a2, a3⟩
          · cases e : g.regs (q.frm m) with
            | none => exact .inr ⟨m, by omega, e, a⟩
            | some v =>
              refine .inl (fun i hi => ?_)
              by_cases ei : i = m
              · rw [ei, e]; rfl
              · exact a i (by omega)
          · exact .inr ⟨j, by omega, a2, a3⟩
      rcases key q.count (Nat.le_refl _) with a | a
      · exfalso
        have : allSet g q = true := by
          unfold allSet
          rw [List.all_eq_true]
          intro i hi
          exact a i (List.mem_range.1 hi)
        rw [hs] at this
        cases this
      · exact a
    obtain ⟨j, hj, hno, hset⟩ := hex
    exact (step_unset hR h hf hg hq j hj hno hset).mono (fun e w' z => ⟨z.1, noX z.2⟩)
  | true =>
    have ev : stepF R strict X fs g q = stepQ R strict X fs g q := by unfold stepF; rw [hs, if_pos rfl]
    rw [ev]
    have hset : ∀ i, i < q.count → (g.regs (q.frm i)).isSome = true := fun i hi => by
      unfold allSet at hs
      rw [List.all_eq_true] at hs
      exact hs i (List.mem_range.2 hi)
    by_cases e20 : q.kind = 20
    · have ev : stepQ R strict X fs g q = some { X with fs := fs ++ [{ g with at_ := q.to_.toNat }] } := by unfold stepQ; rw [if_pos e20]
      rw [ev]
      exact (step_jump hR h hf hg hq hset e20).mono (fun e w' z => ⟨z.1, z.2.mono (by omega)⟩)
    by_cases e21 : q.kind = 21
    · have ev : stepQ R strict X fs g q = some { X with fs := fs ++ [{ g with at_ := if holdsF q.how (xsOf g q 0) (xsOf g q 1) = true then q.to_.toNat else g.at_ + 1 }] } := by unfold stepQ; rw [if_neg e20, if_pos e21]
      rw [ev]
      cases hH : holdsF q.how (xsOf g q 0) (xsOf g q 1) with
      | true => exact (step_branch hR h hf hg hq hset e21 hH).mono (fun e w' z => ⟨z.1, by rw [if_pos rfl]; exact z.2.mono (by omega)⟩)
      | false => exact (step_pass hR h hf hg hq hset e21 hH).mono (fun e w' z => ⟨z.1, by rw [if_neg (by simp)]; exact z.2.mono (by omega)⟩)
    by_cases e22 : q.kind = 22
    · have ev : stepQ R strict X fs g q = if X.fs.length < 1048576 then some { X with fs := fs ++ [g.after strict] ++ [newFr q.to_.toNat ((List.range q.count).map (xsOf g q))] } else none := by unfold stepQ; rw [if_neg e20, if_neg e21, if_pos e22]
      rw [ev]
      refine (step_call hR h hf hg hq hset e22 (by omega)).mono ?_
      rintro e w' ⟨bv, rfl, ⟨rfl, z1, z2⟩ | ⟨rfl, z1, z2⟩⟩
      · rw [if_pos z1]; exact ⟨rfl, z2.mono (by omega)⟩
      · rw [if_neg z1]; exact ⟨rfl, noX z2⟩
    by_cases e23 : q.kind = 23
    · have ev : stepQ R strict X fs g q = (target R (xsOf g q 0) (q.count - 1)).bind fun fn => if X.fs.length < 1048576 then some { X with fs := fs ++ [g.after strict] ++ [newFr fn ((List.range (q.count - 1)).map fun i => xsOf g q (i + 1))] } else none := by unfold stepQ; rw [if_neg e20, if_neg e21, if_neg e22, if_pos e23]
      rw [ev]
      refine (step_apply hR h hf hg hq hset e23 (by omega)).mono ?_
      rintro e w' ⟨bv, rfl, ⟨rfl, fn, f, a1, a2, a3, a4, a5⟩ | ⟨rfl, a1, a2⟩⟩
      · rw [target_iff.2 ⟨f, a1, a2, a3⟩, Option.bind_some, if_pos a4]
        exact ⟨rfl, a5.mono (by omega)⟩
      · have en : ((target R (xsOf g q 0) (q.count - 1)).bind fun fn => if X.fs.length < 1048576 then some { X with fs := fs ++ [g.after strict] ++ [newFr fn ((List.range (q.count - 1)).map fun i => xsOf g q (i + 1))] } else none) = none := by
          cases et : target R (xsOf g q 0) (q.count - 1) with
          | none => rfl
          | some fn =>
            obtain ⟨f, b1, b2, b3⟩ := target_iff.1 et
            rw [Option.bind_some, if_neg (fun hl => a1 ⟨fn, f, b1, b2, b3, hl⟩)]
        rw [en]
        exact ⟨rfl, noX a2⟩
    by_cases e24 : q.kind = 24
    · have ev : stepQ R strict X fs g q = some { X with fs := fs ++ [newFr q.to_.toNat ((List.range q.count).map (xsOf g q))] } := by unfold stepQ; rw [if_neg e20, if_neg e21, if_neg e22, if_neg e23, if_pos e24]
      rw [ev]
      refine (step_tail hR h hf hg hq hset e24 (by omega)).mono ?_
      rintro e w' ⟨bv, rfl, ⟨rfl, _, z2⟩ | ⟨rfl, z1, z2⟩⟩
      · exact ⟨rfl, z2.mono (by omega)⟩
      · exact absurd trivial z1
    by_cases e25 : q.kind = 25
    · have ev : stepQ R strict X fs g q = (target R (xsOf g q 0) (q.count - 1)).map fun fn => { X with fs := fs ++ [newFr fn ((List.range (q.count - 1)).map fun i => xsOf g q (i + 1))] } := by unfold stepQ; rw [if_neg e20, if_neg e21, if_neg e22, if_neg e23, if_neg e24, if_pos e25]
      rw [ev]
      refine (step_go hR h hf hg hq hset e25 (by omega)).mono ?_
      rintro e w' ⟨bv, rfl, ⟨rfl, fn, f, a1, a2, a3, a4, a5⟩ | ⟨rfl, a1, a2⟩⟩
      · rw [target_iff.2 ⟨f, a1, a2, a3⟩]
        exact ⟨rfl, a5.mono (by omega)⟩
      · have en : target R (xsOf g q 0) (q.count - 1) = none := by
          cases et : target R (xsOf g q 0) (q.count - 1) with
          | none => rfl
          | some fn =>
            obtain ⟨f, b1, b2, b3⟩ := target_iff.1 et
            exact absurd ⟨fn, f, b1, b2, b3, trivial⟩ a1
        rw [en]
        exact ⟨rfl, noX a2⟩
    by_cases e26 : q.kind = 26
    · have ev : stepQ R strict X fs g q = some (X.back R (xsOf g q 0)) := by unfold stepQ; rw [if_neg e20, if_neg e21, if_neg e22, if_neg e23, if_neg e24, if_neg e25, if_pos e26]
      rw [ev]
      exact (step_ret hR h hf hg hq hset e26 hwait (by omega)).mono (fun e w' z => ⟨z.1, z.2.mono (by omega)⟩)
    by_cases e18 : q.kind = 18
    · have ev : stepQ R strict X fs g q = (X.M.store (IntKind.u64.wrap (xsOf g q 0 + q.imm)) q.how (xsOf g q 1)).map fun M' => { X with M := M', fs := fs ++ [{ g with at_ := g.at_ + 1 }] } := by unfold stepQ; rw [if_neg e20, if_neg e21, if_neg e22, if_neg e23, if_neg e24, if_neg e25, if_neg e26, if_pos e18]
      rw [ev]
      cases hS : X.M.store (IntKind.u64.wrap (xsOf g q 0 + q.imm)) q.how (xsOf g q 1) with
      | some M' => exact (step_store hR h hf hg hq hset e18 (by omega) M' hS).mono (fun e w' z => ⟨z.1, z.2.mono (by omega)⟩)
      | none => exact (step_nostore hR h hf hg hq hset e18 (by omega) hS).mono (fun e w' z => ⟨z.1, z.2.mono (by omega)⟩)
    by_cases e32 : q.kind = 32
    · have ev : stepQ R strict X fs g q = some { X with fs := fs ++ [{ g.setBank true (upd g.slots q.imm.toNat (some (xsOf g q 0))) with at_ := g.at_ + 1 }] } := by unfold stepQ; rw [if_neg e20, if_neg e21, if_neg e22, if_neg e23, if_neg e24, if_neg e25, if_neg e26, if_neg e18, if_pos e32]
      rw [ev]
      exact (step_put hR h hf hg hq hset e32 (by omega)).mono (fun e w' z => ⟨z.1, z.2.mono (by omega)⟩)
    · have hv : isVal q.kind := by
        unfold isKind at hk
        rcases hk with a | a | a | a
        · exact absurd a e18
        · omega
        · exact absurd a e32
        · exact a
      have ev : stepQ R strict X fs g q = if (X.val g q (xsOf g q)).2.1 = true then some { (X.val g q (xsOf g q)).2.2 with fs := fs ++ [{ g.setBank false (upd g.regs q.d (some (X.val g q (xsOf g q)).1)) with at_ := g.at_ + 1 }] } else none := by unfold stepQ; rw [if_neg e20, if_neg e21, if_neg e22, if_neg e23, if_neg e24, if_neg e25, if_neg e26, if_neg e18, if_neg e32]
      rw [ev]
      obtain ⟨kp, ku, kn⟩ := val_keeps (xs := xsOf g q) h hf ⟨hwf.im.1, hwf.im.2⟩ (fun i _ => xsOf_ok h hf q i)
      obtain ⟨K0, hK0⟩ : ∃ K0, K = K0 + 1 := ⟨K - 1, by omega⟩
      cases hb : (X.val g q (xsOf g q)).2.1 with
      | true =>
        have := step_val (K := K0) hR h hf hg hq hset hv hw hN (by omega) (fun n hn ht => by have := hK n hn ht; omega) (X.val g q (xsOf g q)).1 (X.val g q (xsOf g q)).2.2 (by rw [← hb]) (by rw [kp.fs, hf]) ku (by omega)
        rw [if_pos rfl]
        exact this.mono (fun e w' z => ⟨z.1, by rw [hK0]; exact z.2⟩)
      | false =>
        have := step_noval (K := K0) hR h hf hg hq hset hv hw hN (by omega) (fun n hn ht => by have := hK n hn ht; omega) (X.val g q (xsOf g q)).1 (X.val g q (xsOf g q)).2.2 (by rw [← hb])
        rw [if_neg (by simp)]
        refine this.mono (fun e w' z => ⟨z.1, ?_⟩)
        have z2 := z.2
        rw [kn hb] at z2
        exact z2.mono (by omega)
end
end Go.Proofs.YtoidddfpekbliaaGreat
namespace Go.Proofs.YtoidddfpekbliaaGreat
set_option linter.unusedSimpArgs false
set_option linter.unusedVariables false
open Go.RowKit

/-- the instructions of a program are of the kinds that there are -/
def RKd (R : List RFun) : Prop := ∀ (i : Nat) (f : RFun), R[i]? = some f → ∀ (k : Nat) (q : RCode), f.code[k]? = some q → isKind q.kind
structure POk (R : List RFun) (B : Nat) (X : PSt) : Prop where
  fok : ∀ f ∈ X.fs, FOk R f
  fw : ∀ f ∈ X.fs.dropLast, FWait R f
  wf : WF X.S
  sd : X.M.sd ≤ B
  sh : X.M.sh ≤ B
  op : X.status = 0 → X.fs ≠ []

theorem has_le {base size : Nat} {x : Int} {n : Nat} (hs : size ≤ 1099511627776) (h : hasB base size x n = true) : n ≤ size := by
  unfold hasB at h
  rw [Bool.and_eq_true, decide_eq_true_eq, decide_eq_true_eq] at h
  have h0 := wrap_nonneg (x - (base : Int))
  generalize IntKind.u64.wrap (x - (base : Int)) = d at *
  rw [wrapu_small ((size : Int) - d) (by omega) (by omega)] at h
  omega
theorem there_le {M : Mem} {B : Nat} (hB : B ≤ 1099511627776) (h1 : M.sd ≤ B) (h2 : M.sh ≤ B) {x : Int} {n : Nat} (h : M.there x n = true) : n ≤ B := by
  unfold Mem.there at h
  rw [Bool.or_eq_true, decide_eq_true_eq] at h
  rcases h with h | h
  · omega
  · unfold partOf at h
    split at h
    · rename_i e
      have := has_le (by omega) e
      omega
    · split at h
      · rename_i e
        have := has_le (by omega) e
        omega
      · cases h

section
variable {R : List RFun} {strict : Bool} {B : Nat} {X : PSt} {fs : List Fr} {g : Fr} {rf : RFun} {q : RCode}

/-- the last call goes on somewhere -/
theorem POk.last (h : POk R B X) (hf : X.fs = fs ++ [g]) {X' : PSt} {g' : Fr} (hf' : X'.fs = fs ++ [g']) (hg : FOk R g') (hS : WF X'.S) (hd : X'.M.sd = X.M.sd) (hh : X'.M.sh = X.M.sh) : POk R B X' := by
  have h1 := h.fok
  have h2 := h.fw
  rw [hf] at h1 h2
  rw [List.dropLast_concat] at h2
  refine ⟨fun f hm => ?_, fun f hm => ?_, hS, by rw [hd]; exact h.sd, by rw [hh]; exact h.sh, fun _ => by rw [hf']; simp⟩
  · rw [hf'] at hm
    rcases List.mem_append.1 hm with hm | hm
    · exact h1 f (List.mem_append_left _ hm)
    · rw [List.mem_singleton.1 hm]; exact hg
  · rw [hf', List.dropLast_concat] at hm
    exact h2 f hm
theorem fok_at {a : Nat} {g' : Fr} (hg : R[g.fn]? = some rf) (hfn : g'.fn = g.fn) (hat : g'.at_ = a) (ha : a < rf.code.length) : FOk R g' := ⟨rf, by rw [hfn]; exact hg, by rw [hat]; exact ha⟩
theorem fok_new (hR : RWF R) {fn : Nat} {f : RFun} (hfn : R[fn]? = some f) (xs : List Int) : FOk R (newFr fn xs) := ⟨f, hfn, by show 0 < _; have := (hR.fn fn f hfn).2.1; omega⟩

theorem stepF_ok {p N fb pw b cap : Nat} {vd vh : Value} {fc c : Nat → Value} {w : World} {L : Nat → Option Lb} {Lw : Nat → Option Lab} (hR : RWF R) (hp : PR p N fb pw R strict X b cap vd vh fc c w L Lw) (h : POk R B X) (hf : X.fs = fs ++ [g]) (hg : R[g.fn]? = some rf) (hq : rf.code[g.at_]? = some q) {X' : PSt} (hs : stepF R strict X fs g q = some X') : POk R B X' := by
  have hwf := (hR.fn g.fn rf hg).2.2.2 g.at_ q hq
  unfold stepF at hs
  split at hs
  · have keep : ∀ {g' : Fr} {Y : PSt}, Y.fs = fs ++ [g'] → FOk R g' → Y.S = X.S → Y.M.sd = X.M.sd → Y.M.sh = X.M.sh → POk R B Y := fun e1 e2 e3 e4 e5 => h.last hf e1 e2 (by rw [e3]; exact h.wf) e4 e5
    have nxt : q.kind ≠ 20 → q.kind ≠ 24 → q.kind ≠ 25 → q.kind ≠ 26 → g.at_ + 1 < rf.code.length := hwf.next
    have call : ∀ {fn : Nat} {f : RFun} {xs : List Int} {Y : PSt}, R[fn]? = some f → g.at_ + 1 < rf.code.length → Y = { X with fs := fs ++ [g.after strict] ++ [newFr fn xs] } → POk R B Y := by
      intro fn f xs Y e1 e2 e3
      subst e3
      have h1 := h.fok
      have h2 := h.fw
      rw [hf] at h1 h2
      rw [List.dropLast_concat] at h2
      have ga : FOk R (g.after strict) := fok_at (g := g) hg rfl (a := g.at_ + 1) rfl e2
      have gw : FWait R (g.after strict) := ⟨ga, Nat.succ_le_succ (Nat.zero_le _)⟩
      refine ⟨fun f' hm => ?_, fun f' hm => ?_, h.wf, h.sd, h.sh, fun _ => by simp⟩
      · rcases List.mem_append.1 hm with hm | hm
        · rcases List.mem_append.1 hm with hm | hm
          · exact h1 f' (List.mem_append_left _ hm)
          · rw [List.mem_singleton.1 hm]; exact ga
        · rw [List.mem_singleton.1 hm]; exact fok_new hR e1 xs
      · simp only [List.dropLast_concat] at hm
        rcases List.mem_append.1 hm with hm | hm
        · exact h2 f' hm
        · rw [List.mem_singleton.1 hm]; exact gw
    unfold stepQ at hs
    by_cases e20 : q.kind = 20
    · rw [if_pos e20] at hs
      obtain ⟨m, hto, hm⟩ := hwf.to' (.inl e20)
      cases hs
      exact keep rfl (fok_at (g := g) hg rfl rfl (by rw [hto]; simpa using hm)) rfl rfl rfl
    rw [if_neg e20] at hs
    by_cases e21 : q.kind = 21
    · rw [if_pos e21] at hs
      obtain ⟨m, hto, hm⟩ := hwf.to' (.inr e21)
      cases hs
      refine keep rfl (fok_at (g := g) hg rfl rfl ?_) rfl rfl rfl
      split
      · rw [hto]; simpa using hm
      · exact nxt (by omega) (by omega) (by omega) (by omega)
    rw [if_neg e21] at hs
    by_cases e22 : q.kind = 22
    · rw [if_pos e22] at hs
      obtain ⟨fn, f, hto, hfn, _⟩ := hwf.call (.inl e22)
      split at hs
      · cases hs
        exact call (fn := q.to_.toNat) (by rw [hto]; exact hfn) (nxt (by omega) (by omega) (by omega) (by omega)) rfl
      · cases hs
    rw [if_neg e22] at hs
    by_cases e23 : q.kind = 23
    · rw [if_pos e23] at hs
      cases et : target R (xsOf g q 0) (q.count - 1) with
      | none => rw [et] at hs; cases hs
      | some fn =>
        rw [et, Option.bind_some] at hs
        obtain ⟨f, _, hfn, _⟩ := target_iff.1 et
        split at hs
        · cases hs
          exact call hfn (nxt (by omega) (by omega) (by omega) (by omega)) rfl
        · cases hs
    rw [if_neg e23] at hs
    by_cases e24 : q.kind = 24
    · rw [if_pos e24] at hs
      obtain ⟨fn, f, hto, hfn, _⟩ := hwf.call (.inr e24)
      cases hs
      exact keep rfl (fok_new hR (by rw [hto]; exact hfn) _) rfl rfl rfl
    rw [if_neg e24] at hs
    by_cases e25 : q.kind = 25
    · rw [if_pos e25] at hs
      cases et : target R (xsOf g q 0) (q.count - 1) with
      | none => rw [et] at hs; cases hs
      | some fn =>
        rw [et] at hs
        obtain ⟨f, _, hfn, _⟩ := target_iff.1 et
        cases hs
        exact keep rfl (fok_new hR hfn _) rfl rfl rfl
    rw [if_neg e25] at hs
    by_cases e26 : q.kind = 26
    · rw [if_pos e26] at hs
      simp only [Option.some.injEq] at hs
      subst hs
      have h1 := h.fok
      have h2 := h.fw
      rw [hf] at h1 h2
      rw [List.dropLast_concat] at h2
      unfold PSt.back
      rw [hf, List.dropLast_concat]
      cases er : fs.reverse with
      | nil =>
        simp only
        split
        · exact ⟨fun f hm => (by cases hm), fun f hm => (by cases hm), h.wf, h.sd, h.sh, fun e => (by simp at e)⟩
        · exact ⟨fun f hm => (by cases hm), fun f hm => (by cases hm), h.wf, h.sd, h.sh, fun e => (by simp [PSt.exit] at e)⟩
      | cons g1 r =>
        have efs : fs = r.reverse ++ [g1] := by
          have := congrArg List.reverse er
          simpa using this
        simp only
        have hgw := h2 g1 (by rw [efs]; simp)
        refine ⟨fun f hm => ?_, fun f hm => ?_, h.wf, h.sd, h.sh, fun _ => by simp⟩
        · rcases List.mem_append.1 hm with hm | hm
          · exact h1 f (List.mem_append_left _ (by rw [efs]; exact List.mem_append_left _ hm))
          · rw [List.mem_singleton.1 hm]; exact hgw.1
        · simp only [List.dropLast_concat] at hm
          exact h2 f (by rw [efs]; exact List.mem_append_left _ hm)
    rw [if_neg e26] at hs
    by_cases e18 : q.kind = 18
    · rw [if_pos e18] at hs
      cases eS : X.M.store (IntKind.u64.wrap (xsOf g q 0 + q.imm)) q.how (xsOf g q 1) with
      | none => rw [eS] at hs; cases hs
      | some M' =>
        rw [eS] at hs
        cases hs
        obtain ⟨z1, z2⟩ := store_sizes eS
        exact keep rfl (fok_at (g := g) hg rfl rfl (nxt (by omega) (by omega) (by omega) (by omega))) rfl z1 z2
    rw [if_neg e18] at hs
    by_cases e32 : q.kind = 32
    · rw [if_pos e32] at hs
      cases hs
      exact keep rfl (fok_at (g := g) hg rfl rfl (nxt (by omega) (by omega) (by omega) (by omega))) rfl rfl rfl
    rw [if_neg e32] at hs
    obtain ⟨kp, _, _⟩ := val_keeps (xs := xsOf g q) hp hf ⟨hwf.im.1, hwf.im.2⟩ (fun i _ => xsOf_ok hp hf q i)
    split at hs
    · simp only [Option.some.injEq] at hs
      subst hs
      refine h.last hf rfl (fok_at (g := g) hg rfl rfl (nxt (by omega) (by omega) (by omega) (by omega))) (kp.wf h.wf) kp.sd kp.sh
    · cases hs
  · cases hs
end
end Go.Proofs.YtoidddfpekbliaaGreat
namespace Go.Proofs.YtoidddfpekbliaaGreat
set_option linter.unusedSimpArgs false
set_option linter.unusedVariables false
open Go.RowKit

/-! ### what is gathered of an instruction -/

def rdN (l : List (Int × Int)) : Nat := (l.filter (fun p => decide (p.1 = 0))).length
theorem rdN_append (l r : List (Int × Int)) : rdN (l ++ r) = rdN l + rdN r := by unfold rdN; rw [List.filter_append, List.length_append]
theorem rdN_map (l : List Int) : rdN (l.map (fun y => ((0 : Int), y))) = l.length := by
  induction l with
  | nil => rfl
  | cons a r ih => rw [List.map_cons]; have : rdN ((0, a) :: r.map (fun y => ((0 : Int), y))) = rdN (r.map (fun y => ((0 : Int), y))) + 1 := by simp [rdN]
                   rw [this, ih]; rfl
theorem gath_c (l : List (Int × Int)) (s : Gth) : (l.foldl step1 s).c = s.c + rdN l := by
  induction l generalizing s with
  | nil => simp [rdN]
  | cons p r ih =>
    rw [List.foldl_cons, ih]
    by_cases h0 : p.1 = 0
    · have e : rdN (p :: r) = rdN r + 1 := by simp [rdN, h0]
      rw [e]; unfold step1; rw [if_pos h0]; simp only; omega
    · have e : rdN (p :: r) = rdN r := by simp [rdN, h0]
      rw [e]; unfold step1; rw [if_neg h0]; split <;> rfl
structure GOk (B : Int) (s : Gth) : Prop where
  d : 0 ≤ s.d ∧ s.d ≤ B
  f : ∀ i, 0 ≤ s.f i ∧ s.f i ≤ B
theorem gath_ok {B : Int} (l : List (Int × Int)) (s : Gth) (h : GOk B s) (hl : ∀ p ∈ l, p.1 = 0 ∨ p.1 = 1 → 0 ≤ p.2 ∧ p.2 ≤ B) : GOk B (l.foldl step1 s) := by
  induction l generalizing s with
  | nil => exact h
  | cons p r ih =>
    rw [List.foldl_cons]
    refine ih _ ?_ (fun q hq => hl q (List.mem_cons_of_mem _ hq))
    have hp := hl p (List.mem_cons_self ..)
    unfold step1
    by_cases h0 : p.1 = 0
    · rw [if_pos h0]
      refine ⟨h.d, fun i => ?_⟩
      simp only [upd]
      split
      · exact hp (.inl h0)
      · exact h.f i
    · rw [if_neg h0]
      by_cases h1 : p.1 = 1
      · rw [if_pos h1]; exact ⟨hp (.inr h1), h.f⟩
      · rw [if_neg h1]; exact h

def b2n (b : Bool) : Nat := if b then 1 else 0
theorem rdN_uses (x : Wd) : rdN (usesF x) = b2n (bit 2 x.k) + b2n (bit 4 x.k) + (if bit 32 x.k then x.args.length else 0) := by
  unfold usesF
  rw [rdN_append, rdN_append, rdN_append, rdN_append]
  have e1 : rdN (if bit 2 x.k then [(0, x.a)] else []) = b2n (bit 2 x.k) := by unfold b2n; split <;> simp [rdN]
  have e2 : rdN (if bit 4 x.k then [(0, x.b)] else []) = b2n (bit 4 x.k) := by unfold b2n; split <;> simp [rdN]
  have e3 : rdN (if bit 32 x.k then x.args.map (fun y => ((0 : Int), y)) else []) = if bit 32 x.k then x.args.length else 0 := by
    split
    · exact rdN_map _
    · rfl
  have e4 : rdN (if x.k = 31 then [(2, x.imm)] else if x.k = 32 then [(3, x.imm)] else []) = 0 := by
    split
    · simp [rdN]
    · split <;> simp [rdN]
  have e5 : rdN (if bit 1 x.k then [(1, x.d)] else []) = 0 := by split <;> simp [rdN]
  rw [e1, e2, e3, e4, e5]; omega

/-- all that is asked of an instruction, and that it doesn't hand on too much -/
structure XOk (fs : List Wf) (regs slots most : Int) (m : Int → Option Nat) (x : Wd) : Prop where
  kd : 1 ≤ x.k ∧ x.k ≤ 32
  pl : placesF regs x = true
  im : immF most slots x = true
  cl : callF fs x = true
  hw : howF x.k x.cond x.real x.size = true
  lb : bit 8 x.k = true → (m x.l).isSome = true
  ar : bit 32 x.k = true → x.args.length ≤ 4

theorem fields_kind {k : Int} (h : fieldsF k ≠ 0) : 1 ≤ k ∧ k ≤ 32 := by
  refine ⟨?_, ?_⟩ <;>
  · apply Classical.byContradiction
    intro hc
    exact h (fieldsF_out (by omega))

theorem k_cases {k : Int} (h : 1 ≤ k ∧ k ≤ 32) (P : Int → Prop) (hp : ∀ i : Fin 32, P ((i.val : Int) + 1)) : P k := by
  have := hp ⟨(k - 1).toNat, by omega⟩
  have e : (((k - 1).toNat : Nat) : Int) + 1 = k := by omega
  simp only [e] at this
  exact this

theorem xok_of {fs : List Wf} {most regs slots : Int} {m : Int → Option Nat} {x : Wd} (h : wdF fs most regs slots m x = true) (hpar : ∀ f ∈ fs, f.params ≤ 4) : XOk fs regs slots most m x := by
  unfold wdF at h
  simp only [Bool.and_eq_true, decide_eq_true_eq, Bool.or_eq_true, Bool.not_eq_true'] at h
  obtain ⟨⟨⟨⟨⟨h1, h2⟩, h3⟩, h4⟩, h5⟩, h6⟩ := h
  have hk := fields_kind h1
  refine ⟨hk, h2, h3, h4, h5, fun e => ?_, fun e => ?_⟩
  · rcases h6 with h6 | h6
    · exact h6
    · rw [h6] at e; cases e
  · have hc : x.k = 22 ∨ x.k = 23 ∨ x.k = 24 ∨ x.k = 25 ∨ x.k = 30 := by
      revert e
      exact k_cases hk (fun k => bit 32 k = true → k = 22 ∨ k = 23 ∨ k = 24 ∨ k = 25 ∨ k = 30) (by decide)
    unfold callF at h4
    split at h4
    · cases h4
    · rename_i hn
      rcases hc with hc | hc | hc | hc | hc
      · rw [if_pos (by omega)] at h4
        simp only [decide_eq_true_eq] at h4
        cases ef : fs[x.f.toNat]? with
        | none => rw [ef] at h4; have h4' : (x.args.length : Int) = 0 := h4; omega
        | some g =>
          rw [ef] at h4
          have := hpar g (List.mem_of_getElem? ef)
          simp at h4; omega
      · rw [if_neg (by omega), if_pos (by omega)] at h4; simpa using h4
      · rw [if_pos (by omega)] at h4
        simp only [decide_eq_true_eq] at h4
        cases ef : fs[x.f.toNat]? with
        | none => rw [ef] at h4; have h4' : (x.args.length : Int) = 0 := h4; omega
        | some g =>
          rw [ef] at h4
          have := hpar g (List.mem_of_getElem? ef)
          simp at h4; omega
      · rw [if_neg (by omega), if_pos (by omega)] at h4; simpa using h4
      · rw [if_neg (by omega), if_neg (by omega), if_pos (by omega)] at h4
        have : x.args.length ≤ 3 := by simpa using h4
        omega

theorem XOk.reads {fs : List Wf} {regs slots most : Int} {m : Int → Option Nat} {x : Wd} (h : XOk fs regs slots most m x) : rdN (usesF x) ≤ 5 := by
  rw [rdN_uses]
  have e : b2n (bit 2 x.k) + b2n (bit 4 x.k) + (if bit 32 x.k then 4 else 0) ≤ 5 := k_cases h.kd (fun k => b2n (bit 2 k) + b2n (bit 4 k) + (if bit 32 k then 4 else 0) ≤ 5) (by decide)
  split
  · rename_i h32
    rw [if_pos h32] at e
    have := h.ar h32
    omega
  · rename_i h32
    rw [if_neg h32] at e
    exact e
theorem XOk.regs {fs : List Wf} {regs slots most : Int} {m : Int → Option Nat} {x : Wd} (h : XOk fs regs slots most m x) : ∀ p ∈ usesF x, p.1 = 0 ∨ p.1 = 1 → 0 ≤ p.2 ∧ p.2 ≤ regs - 1 := by
  have := h.pl
  unfold placesF at this
  rw [List.all_eq_true] at this
  intro p hp hc
  have := this p hp
  unfold placeF at this
  rw [if_pos hc] at this
  simpa using this
theorem XOk.gath {fs : List Wf} {regs slots most : Int} {m : Int → Option Nat} {x : Wd} (h : XOk fs regs slots most m x) (hr : regs ≤ 65536) : GOk 65535 (gath x) := by
  unfold Go.Proofs.YtoidddfpekbliaaGreat.gath
  exact gath_ok _ _ ⟨⟨by simp, by simp⟩, fun _ => ⟨by simp, by simp⟩⟩ (fun p hp hc => by have := h.regs p hp hc; omega)

/-! ### made ready -/

def howN (x : Wd) : Int := if x.k = 15 ∨ x.k = 21 then x.cond else if x.k = 16 then x.real else if x.k = 17 ∨ x.k = 18 then x.size else 0
def toN (m : Int → Option Nat) (pls : List Int) (x : Wd) : Int := if x.k = 20 ∨ x.k = 21 then pls.getD ((m x.l).getD 0) 0 else if x.k = 22 ∨ x.k = 24 ∨ x.k = 28 then x.f else 0
def readyW (m : Int → Option Nat) (pls : List Int) (x : Wd) : RCode := ⟨x.k.toNat, (howN x).toNat, (gath x).c, (gath x).d.toNat, toN m pls x, IntKind.u64.wrap x.imm, fun i => ((gath x).f i).toNat⟩
/-- without labels -/
def nl (l : List Wd) : List Wd := l.filter (fun x => decide (x.k ≠ 19))
def placesL (l : List Wd) : List Int := (List.range l.length).map (fun i => ((nl (l.take i)).length : Int))
def labM (l : List Wd) : Int → Option Nat := (labsF l 0 (fun _ => none)).getD (fun _ => none)
def readyC (l : List Wd) : List RCode := (nl l).map (readyW (labM l) (placesL l))
def readyP (p : Wp) : List RFun := p.funs.map (fun f => ⟨f.name, f.params.toNat, readyC f.code⟩)

theorem howN_ok {fs : List Wf} {regs slots most : Int} {m : Int → Option Nat} {x : Wd} (h : XOk fs regs slots most m x) : 0 ≤ howN x ∧ howN x ≤ 255 ∧ (x.k = 17 ∨ x.k = 18 → howN x = 1 ∨ howN x = 4 ∨ howN x = 8) := by
  have hw := h.hw
  unfold howF at hw
  unfold howN
  by_cases c1 : x.k = 15 ∨ x.k = 21
  · rw [if_pos c1] at hw ⊢
    simp at hw
    omega
  · rw [if_neg c1] at hw ⊢
    by_cases c2 : x.k = 16
    · rw [if_pos c2] at hw ⊢
      simp at hw
      omega
    · rw [if_neg c2] at hw ⊢
      by_cases c3 : x.k = 17 ∨ x.k = 18
      · rw [if_pos c3] at hw ⊢
        unfold sizeF at hw
        simp at hw
        omega
      · rw [if_neg c3]
        omega
end Go.Proofs.YtoidddfpekbliaaGreat
namespace Go.Proofs.YtoidddfpekbliaaGreat
set_option linter.unusedSimpArgs false
set_option linter.unusedVariables false
open Go.RowKit
attribute [local go_sem ↓] Go.wp_at_zero Go.wp_at_succ

/-- labels' places are places of labels -/
theorem labsF_at (l : List Wd) (i : Nat) (m0 m : Int → Option Nat) (h : labsF l i m0 = some m) (x : Int) (y : Nat) (hy : m x = some y) : m0 x = some y ∨ ∃ j, y = i + j ∧ ∃ hj : j < l.length, l[j].k = 19 := by
  induction l generalizing i m0 with
  | nil => simp only [labsF, Option.some.injEq] at h; subst h; exact .inl hy
  | cons a r ih =>
    simp only [labsF] at h
    by_cases hk : a.k = 19
    · rw [if_pos hk] at h
      by_cases hs : (m0 a.l).isSome = true
      · rw [if_pos hs] at h; cases h
      · rw [if_neg hs] at h
        rcases ih (i + 1) _ h with h1 | ⟨j, e, hj, h2⟩
        · unfold updI at h1
          by_cases e : x = a.l
          · rw [if_pos e] at h1
            cases h1
            exact .inr ⟨0, rfl, by simp, hk⟩
          · rw [if_neg e] at h1; exact .inl h1
        · exact .inr ⟨j + 1, by omega, by simp; omega, by simpa using h2⟩
    · rw [if_neg hk] at h
      rcases ih (i + 1) _ h with h1 | ⟨j, e, hj, h2⟩
      · exact .inl h1
      · exact .inr ⟨j + 1, by omega, by simp; omega, by simpa using h2⟩

def rcV (q : RCode) : Value := rcVal (q.kind : Int) (q.how : Int) (q.count : Int) (q.d : Int) q.to_ q.imm (q.frm 0 : Int) (q.frm 1 : Int) (q.frm 2 : Int) (q.frm 3 : Int) (q.frm 4 : Int)

theorem toNat_of {x : Int} (h : 0 ≤ x) : ((x.toNat : Nat) : Int) = x := by omega

theorem rword_raw (x : Wd) (fs : List Wf) (regs slots most : Int) (m : Int → Option Nat) (pls : List Int) (mb pg pn N : Nat) (w : World) (hx : WA w x) (hok : XOk fs regs slots most m x) (hr : regs ≤ 65536) (hfs : fs.length ≤ 1073741824)
    (hm : ∀ u, Tn No w u → IM .i64 3 u mb N m) (hpl : pls.length = pn) (hpn : pn ≤ 1073741824) (hpc : ∀ u, Tn No w u → ∀ i (hi : i < pls.length), u.cell? ⟨pg, i, none⟩ = some (.int .i32 pls[i])) (hlab : ∀ z y, m z = some y → y < pn) :
    Calls Tryz.prog 115 #[x.val, .map (some mb), .slice (some ⟨pg, 0, none⟩) pn pn] w fun e w' => e = .returned (rcV (readyW m pls x)) ∧ Tn No w w' := by
  have hc5 := hok.reads
  have hg1 := hok.gath hr
  have hho := howN_ok hok
  have hg : ∀ u pb, Tn No w u → CB u pb 11 (wcell x.k (IntKind.u64.wrap x.imm) ⟨0, 0, fun _ => 0⟩) → w.heap.size ≤ pb → Calls Tryz.prog 140 #[x.val, .func (.func 144) #[] #[.pointer (some ⟨pb, 0, none⟩)]] u fun e w' => e = .returned (.tuple #[]) ∧ CB w' pb 11 (wcell x.k (IntKind.u64.wrap x.imm) (gath x)) ∧ Tn (fun k => k = pb) u w' := fun u pb t hcb hge => by
    refine gath_raw x pb x.k (IntKind.u64.wrap x.imm) u (hx.no t) hcb.lt (fun h0 g hg e => ?_) hcb (fun n y hn => ?_) (fun n a y hn ha => ?_)
    · obtain ⟨ad, c, e1, _, _, hat⟩ := hx.args
      obtain ⟨g', o, rfl, hg', _⟩ := hat h0
      rw [e1] at hg
      simp [Value.ownBlock] at hg
      omega
    · rw [gath_c]
      have e1 : rdN (usesF x) = rdN ((usesF x).take n) + rdN ((usesF x).drop n) := by rw [← rdN_append, List.take_append_drop]
      have e2 : 1 ≤ rdN ((usesF x).drop n) := by
        have hl : n < (usesF x).length := (List.getElem?_eq_some_iff.1 hn).1
        rw [List.drop_eq_getElem_cons hl]
        have : (usesF x)[n] = (0, y) := (List.getElem?_eq_some_iff.1 hn).2
        rw [this]
        simp [rdN]
      simp only; omega
    · have := hok.regs (a, y) (List.mem_of_getElem? hn) ha
      simp only at this
      omega
  have hv : rcV (readyW m pls x) = rcVal x.k (howN x) ((gath x).c : Int) (gath x).d (toN m pls x) (IntKind.u64.wrap x.imm) ((gath x).f 0) ((gath x).f 1) ((gath x).f 2) ((gath x).f 3) ((gath x).f 4) := by
    unfold rcV readyW
    simp only
    rw [toNat_of (by have := hok.kd.1; omega), toNat_of hho.1, toNat_of hg1.d.1, toNat_of (hg1.f 0).1, toNat_of (hg1.f 1).1, toNat_of (hg1.f 2).1, toNat_of (hg1.f 3).1, toNat_of (hg1.f 4).1]
  rw [hv]
  have hform := hx.args.form
  have hll := hx.ok.2.2.2.2.1
  have hf16 : x.k = 22 ∨ x.k = 24 ∨ x.k = 28 → 0 ≤ x.f ∧ x.f ≤ 1073741824 := fun hc => by
    have := hok.cl
    unfold callF at this
    have hb : bit 16 x.k = true := by rcases hc with e | e | e <;> rw [e] <;> decide
    split at this
    · cases this
    · rename_i hn
      rw [hb] at hn
      simp at hn
      omega
  have hlk : x.k = 20 ∨ x.k = 21 → ∃ y, m x.l = some y ∧ y < pn := fun hc => by
    have hb : bit 8 x.k = true := by rcases hc with e | e <;> rw [e] <;> decide
    obtain ⟨y, hy⟩ := Option.isSome_iff_exists.1 (hok.lb hb)
    exact ⟨y, hy, hlab _ _ hy⟩
  have hkd := hok.kd
  generalize gath x = S at *
  obtain ⟨k, d, a, b, l, f, cond, real, size, imm, av, args⟩ := x
  simp only at hform hll hf16 hlk hkd hho hg hc5
  clear hx hok
  obtain ⟨va, vc', rfl⟩ := hform
  simp only [Wd.val] at hg ⊢
  have go : ∀ y, m l = some y → y < pn → ∃ P, pls.getD ((m l).getD 0) 0 = P ∧ (∀ u, Tn No w u → u.cell? ⟨pg, y, none⟩ = some (.int .i32 P)) ∧ ∀ u, Tn No w u → (Instr.lookup 80 (.map (some mb)) (.int .i64 l) false).run Tryz.prog u = .ok (.int .i64 (y : Int)) u := fun y hy hyp => by
    refine ⟨pls[y]'(by omega), by rw [hy]; simp [List.getD_eq_getElem?_getD, List.getElem?_eq_getElem (show y < pls.length by omega)], fun u t => hpc u t y (by omega), fun u t => ?_⟩
    have := (hm u t).look1 Tryz.underlying3 Tryz.underlying80 (zeroInt u) l (i64_wf hll)
    rw [hy] at this
    exact this
  unfold howN at hho
  simp only at hho
  by_cases h15 : k = 15
  · subst h15
    have e : howN ⟨15, d, a, b, l, f, cond, real, size, imm, .slice va args.length vc', args⟩ = cond := rfl
    have e2 : toN m pls ⟨15, d, a, b, l, f, cond, real, size, imm, .slice va args.length vc', args⟩ = 0 := rfl
    rw [e, e2]
    simp at hho
    exact rword_15 d a b l f cond real size imm va args.length vc' mb _ pn pn w S hho.1 hho.2 hg
  by_cases h16 : k = 16
  · subst h16
    have e : howN ⟨16, d, a, b, l, f, cond, real, size, imm, .slice va args.length vc', args⟩ = real := rfl
    have e2 : toN m pls ⟨16, d, a, b, l, f, cond, real, size, imm, .slice va args.length vc', args⟩ = 0 := rfl
    rw [e, e2]
    simp at hho
    exact rword_16 d a b l f cond real size imm va args.length vc' mb _ pn pn w S hho.1 hho.2 hg
  by_cases h17 : k = 17
  · subst h17
    have e : howN ⟨17, d, a, b, l, f, cond, real, size, imm, .slice va args.length vc', args⟩ = size := rfl
    have e2 : toN m pls ⟨17, d, a, b, l, f, cond, real, size, imm, .slice va args.length vc', args⟩ = 0 := rfl
    rw [e, e2]
    simp at hho
    exact rword_17 d a b l f cond real size imm va args.length vc' mb _ pn pn w S hho.1 hho.2.1 hg
  by_cases h18 : k = 18
  · subst h18
    have e : howN ⟨18, d, a, b, l, f, cond, real, size, imm, .slice va args.length vc', args⟩ = size := rfl
    have e2 : toN m pls ⟨18, d, a, b, l, f, cond, real, size, imm, .slice va args.length vc', args⟩ = 0 := rfl
    rw [e, e2]
    simp at hho
    exact rword_18 d a b l f cond real size imm va args.length vc' mb _ pn pn w S hho.1 hho.2.1 hg
  by_cases h20 : k = 20
  · subst h20
    obtain ⟨y, hy, hyp⟩ := hlk (.inl rfl)
    obtain ⟨P, hP, h1, h2⟩ := go y hy hyp
    have e : howN ⟨20, d, a, b, l, f, cond, real, size, imm, .slice va args.length vc', args⟩ = 0 := rfl
    have e2 : toN m pls ⟨20, d, a, b, l, f, cond, real, size, imm, .slice va args.length vc', args⟩ = P := hP
    rw [e, e2]
    exact rword_20 d a b l f cond real size imm va args.length vc' mb _ pn pn w S y hyp hpn pg rfl P h1 h2 hg
  by_cases h21 : k = 21
  · subst h21
    obtain ⟨y, hy, hyp⟩ := hlk (.inr rfl)
    obtain ⟨P, hP, h1, h2⟩ := go y hy hyp
    have e : howN ⟨21, d, a, b, l, f, cond, real, size, imm, .slice va args.length vc', args⟩ = cond := rfl
    have e2 : toN m pls ⟨21, d, a, b, l, f, cond, real, size, imm, .slice va args.length vc', args⟩ = P := hP
    rw [e, e2]
    simp at hho
    exact rword_21 d a b l f cond real size imm va args.length vc' mb _ pn pn w S hho.1 hho.2 y hyp hpn pg rfl P h1 h2 hg
  by_cases h22 : k = 22
  · subst h22
    obtain ⟨f1, f2⟩ := hf16 (.inl rfl)
    have e : howN ⟨22, d, a, b, l, f, cond, real, size, imm, .slice va args.length vc', args⟩ = 0 := rfl
    have e2 : toN m pls ⟨22, d, a, b, l, f, cond, real, size, imm, .slice va args.length vc', args⟩ = f := rfl
    rw [e, e2]
    exact rword_22 d a b l f cond real size imm va args.length vc' mb _ pn pn w S f1 f2 hg
  by_cases h24 : k = 24
  · subst h24
    obtain ⟨f1, f2⟩ := hf16 (.inr (.inl rfl))
    have e : howN ⟨24, d, a, b, l, f, cond, real, size, imm, .slice va args.length vc', args⟩ = 0 := rfl
    have e2 : toN m pls ⟨24, d, a, b, l, f, cond, real, size, imm, .slice va args.length vc', args⟩ = f := rfl
    rw [e, e2]
    exact rword_24 d a b l f cond real size imm va args.length vc' mb _ pn pn w S f1 f2 hg
  by_cases h28 : k = 28
  · subst h28
    obtain ⟨f1, f2⟩ := hf16 (.inr (.inr rfl))
    have e : howN ⟨28, d, a, b, l, f, cond, real, size, imm, .slice va args.length vc', args⟩ = 0 := rfl
    have e2 : toN m pls ⟨28, d, a, b, l, f, cond, real, size, imm, .slice va args.length vc', args⟩ = f := rfl
    rw [e, e2]
    exact rword_28 d a b l f cond real size imm va args.length vc' mb _ pn pn w S f1 f2 hg
  have e : howN ⟨k, d, a, b, l, f, cond, real, size, imm, .slice va args.length vc', args⟩ = 0 := by unfold howN; simp [h15, h16, h17, h18, h21]
  have e2 : toN m pls ⟨k, d, a, b, l, f, cond, real, size, imm, .slice va args.length vc', args⟩ = 0 := by unfold toN; simp [h20, h21, h22, h24, h28]
  rw [e, e2]
  exact rword_x k d a b l f cond real size imm va args.length vc' mb _ pn pn w S h15 h16 h17 h18 h20 h21 h22 h24 h28 hkd.1 hkd.2 hg
end Go.Proofs.YtoidddfpekbliaaGreat
namespace Go.Proofs.YtoidddfpekbliaaGreat
set_option linter.unusedSimpArgs false
set_option linter.unusedVariables false
open Go.RowKit

/-- what is known of a function that may be -/
structure FOkP (p : Wp) (f : Wf) : Prop where
  par : 0 ≤ f.params ∧ f.params ≤ 4
  regs : f.regs ≤ 65536
  slots : 0 ≤ f.slots
  last : ∃ i z, f.code = i ++ [z] ∧ leavesF z.k = true
  lab : labsF f.code 0 (fun _ => none) = some (labM f.code)
  each : ∀ x ∈ f.code, XOk p.funs f.regs f.slots ((p.data.length : Int) + p.zero) (labM f.code) x
structure POkP (p : Wp) : Prop where
  zero : 0 ≤ p.zero ∧ p.zero ≤ 268435456 - (p.data.length : Int)
  first : ∃ f r, p.funs = f :: r ∧ f.params = 0
  lines : sumC p.funs ≤ 4194304
  each : ∀ f ∈ p.funs, FOkP p f

theorem pok_of {p : Wp} (h : mayP p = true) : POkP p := by
  unfold mayP at h
  rw [Bool.and_eq_true, Bool.and_eq_true, Bool.and_eq_true] at h
  obtain ⟨⟨⟨h1, h2⟩, h3⟩, h4⟩ := h
  rw [List.all_eq_true] at h4
  have hpar : ∀ f ∈ p.funs, f.params ≤ 4 := fun f hf => by
    have := h4 f hf
    simp only [headF, Bool.and_eq_true, decide_eq_true_eq] at this
    exact this.1.1.1.1.1.2
  refine ⟨by simpa [dataF] using h2, ?_, by simpa [linesF, sumC] using h3, fun f hf => ?_⟩
  · cases e : p.funs with
    | nil => rw [e] at h1; cases h1
    | cons f r => rw [e] at h1; exact ⟨f, r, rfl, by simpa [firstF] using h1⟩
  · have := h4 f hf
    simp only [headF, codeF, Bool.and_eq_true, decide_eq_true_eq] at this
    obtain ⟨⟨⟨⟨⟨⟨a1, a2⟩, a3⟩, a4⟩, a5⟩, a6⟩, b1, b2⟩ := this
    cases hl : labsF f.code 0 (fun _ => none) with
    | none => rw [hl] at b2; cases b2
    | some m =>
      rw [hl] at b2
      simp only at b2
      rw [List.all_eq_true] at b2
      have hm : labM f.code = m := by unfold labM; rw [hl]; rfl
      refine ⟨⟨a1, a2⟩, a4, a5, ?_, by rw [hm, hl], fun x hx => ?_⟩
      · unfold lastF at b1
        cases hg : f.code.getLast? with
        | none => rw [hg] at b1; cases b1
        | some z =>
          rw [hg] at b1
          obtain ⟨i, e⟩ := List.getLast?_eq_some_iff.1 hg
          exact ⟨i, z, e, b1⟩
      · rw [hm]
        exact xok_of (b2 x hx) hpar

theorem nl_append (l r : List Wd) : nl (l ++ r) = nl l ++ nl r := by unfold nl; rw [List.filter_append]
theorem nl_one {z : Wd} (h : leavesF z.k = true) : nl [z] = [z] := by
  have : z.k ≠ 19 := by intro e; rw [e] at h; revert h; decide
  simp [nl, this]
theorem nl_le (l : List Wd) : (nl l).length ≤ l.length := List.length_filter_le _ _

theorem leaves_kinds {k : Int} (h : leavesF k = true) : k = 20 ∨ k = 24 ∨ k = 25 ∨ k = 26 := by
  unfold leavesF at h
  simp at h
  omega

theorem qwf_of {p : Wp} {f : Wf} (hp : POkP p) (hf : FOkP p f) (hfs : p.funs.length ≤ 1073741824) (k : Nat) (q : RCode) (hq : (readyC f.code)[k]? = some q) : QWF (readyP p) ⟨f.name, f.params.toNat, readyC f.code⟩ k q := by
  unfold readyC at hq
  rw [List.getElem?_map] at hq
  cases hx : (nl f.code)[k]? with
  | none => rw [hx] at hq; cases hq
  | some x =>
    rw [hx] at hq
    simp only [Option.map_some, Option.some.injEq] at hq
    have hmem : x ∈ f.code := (List.mem_filter.1 (List.mem_of_getElem? hx)).1
    have hok := hf.each x hmem
    have hg := hok.gath hf.regs
    have hh := howN_ok hok
    have hr := hok.reads
    have hc : (gath x).c = rdN (usesF x) := by unfold gath; rw [gath_c]; simp
    obtain ⟨i, z, hcode, hz⟩ := hf.last
    have hnl : nl f.code = nl i ++ [z] := by rw [hcode, nl_append, nl_one hz]
    have hlen : (readyC f.code).length = (nl i).length + 1 := by unfold readyC; rw [List.length_map, hnl]; simp
    have hkind : (q.kind : Int) = x.k := by rw [← hq]; simp only [readyW]; exact toNat_of (by have := hok.kd.1; omega)
    have hk1 := hok.kd.1
    have hk2 := hok.kd.2
    refine ⟨?_, ?_, ?_, ?_, ?_, ?_, ?_, ?_, ?_, ?_, ?_, ?_⟩
    · omega
    · rw [← hq]; simp only [readyW]; omega
    · intro j _; rw [← hq]; simp only [readyW]; have := hg.f j; omega
    · rw [← hq]; simp only [readyW]; have := hg.d; omega
    · rw [← hq]; simp only [readyW]
      have h := bounds_u64 (wf_wrap .u64 x.imm)
      exact ⟨h.1, h.2⟩
    · intro n1 n2 n3 n4
      rw [hlen]
      have hkl : k < (nl f.code).length := (List.getElem?_eq_some_iff.1 hx).1
      rw [hnl] at hkl
      simp at hkl
      apply Classical.byContradiction
      intro hcn
      have : k = (nl i).length := by omega
      subst this
      rw [hnl, List.getElem?_append_right (Nat.le_refl _)] at hx
      simp at hx
      subst hx
      have := leaves_kinds hz
      omega
    · intro hc20
      have hb : bit 8 x.k = true := by
        have : x.k = 20 ∨ x.k = 21 := by omega
        rcases this with e | e <;> rw [e] <;> decide
      obtain ⟨y, hy⟩ := Option.isSome_iff_exists.1 (hok.lb hb)
      rcases labsF_at f.code 0 _ _ hf.lab x.l y hy with h0 | ⟨j, e, hj, hlab⟩
      · cases h0
      · have ey : y = j := by omega
        subst ey
        refine ⟨(nl (f.code.take y)).length, ?_, ?_⟩
        · rw [← hq]
          simp only [readyW, toN]
          rw [if_pos (by omega), hy]
          unfold placesL
          simp [List.getD_eq_getElem?_getD, hj]
        · rw [hlen]
          have e1 : f.code = f.code.take y ++ f.code.drop y := (List.take_append_drop _ _).symm
          have hyi : y < i.length ∨ y = i.length := by rw [hcode] at hj; simp at hj; omega
          rcases hyi with hyi | hyi
          · have : nl (f.code.take y) = nl (i.take y) := by rw [hcode, List.take_append_of_le_length (by omega)]
            rw [this]
            have e2 : nl i = nl (i.take y) ++ nl (i.drop y) := by rw [← nl_append, List.take_append_drop]
            have : (nl i).length = (nl (i.take y)).length + (nl (i.drop y)).length := by rw [e2, List.length_append]
            omega
          · subst hyi
            have : f.code.take i.length = i := by rw [hcode]; simp
            rw [this]; omega
    · intro hc22
      have hc22' : x.k = 22 ∨ x.k = 24 := by omega
      have hcl := hok.cl
      unfold callF at hcl
      have hb16 : bit 16 x.k = true := by rcases hc22' with e | e <;> rw [e] <;> decide
      have hb2 : bit 2 x.k = false := by rcases hc22' with e | e <;> rw [e] <;> decide
      have hb4 : bit 4 x.k = false := by rcases hc22' with e | e <;> rw [e] <;> decide
      have hb32 : bit 32 x.k = true := by rcases hc22' with e | e <;> rw [e] <;> decide
      split at hcl
      · cases hcl
      · rename_i hn
        rw [hb16] at hn
        simp at hn
        simp only [decide_eq_true_eq] at hcl
        have hlt : x.f.toNat < p.funs.length := by omega
        rw [List.getElem?_eq_getElem hlt] at hcl
        simp only [Option.map_some, Option.getD_some] at hcl
        refine ⟨x.f.toNat, ⟨(p.funs[x.f.toNat]).name, (p.funs[x.f.toNat]).params.toNat, readyC (p.funs[x.f.toNat]).code⟩, ?_, ?_, ?_⟩
        · rw [← hq]; simp only [readyW, toN]; rw [if_neg (by omega), if_pos (by omega)]; omega
        · unfold readyP; rw [List.getElem?_map, List.getElem?_eq_getElem hlt]; rfl
        · rw [← hq]; simp only [readyW]
          rw [hc, rdN_uses, hb2, hb4, hb32]
          simp [b2n]; omega
    · intro hc23
      have hc23' : x.k = 23 ∨ x.k = 25 := by omega
      have hb2 : bit 2 x.k = true := by rcases hc23' with e | e <;> rw [e] <;> decide
      refine ⟨?_, ?_⟩
      · rw [← hq]; simp only [readyW]; rw [hc, rdN_uses, hb2]; simp [b2n]; omega
      · rw [← hq]; simp only [readyW, toN]; rw [if_neg (by omega), if_neg (by omega)]
    · intro hc17
      have := hh.2.2 (by omega)
      rw [← hq]; simp only [readyW]; omega
    · rw [← hq]; simp only [readyW]; omega
    · intro hc28
      have hcl := hok.cl
      unfold callF at hcl
      have hb16 : bit 16 x.k = true := by have : x.k = 28 := by omega
                                          rw [this]; decide
      split at hcl
      · cases hcl
      · rename_i hn
        rw [hb16] at hn
        simp at hn
        rw [← hq]; simp only [readyW, toN]; rw [if_neg (by omega), if_pos (by omega)]; omega

theorem code_pos {p : Wp} {f : Wf} (hf : FOkP p f) : 1 ≤ f.code.length := by
  obtain ⟨i, z, e, _⟩ := hf.last
  rw [e]; simp
theorem sumC_ge (fs : List Wf) (h : ∀ f ∈ fs, 1 ≤ f.code.length) : fs.length ≤ sumC fs := by
  induction fs with
  | nil => simp [sumC]
  | cons f r ih =>
    have h1 := h f (List.mem_cons_self ..)
    have h2 := ih (fun g hg => h g (List.mem_cons_of_mem _ hg))
    unfold sumC at *
    simp only [List.map_cons, List.sum_cons, List.length_cons]
    omega
theorem sumC_mem {fs : List Wf} {f : Wf} (h : f ∈ fs) : f.code.length ≤ sumC fs := by
  induction fs with
  | nil => cases h
  | cons g r ih =>
    unfold sumC at *
    simp only [List.map_cons, List.sum_cons]
    rcases List.mem_cons.1 h with rfl | h
    · omega
    · have := ih h; omega
theorem POkP.few {p : Wp} (h : POkP p) : p.funs.length ≤ 4194304 := by
  have := sumC_ge p.funs (fun f hf => code_pos (h.each f hf))
  have := h.lines
  omega

theorem ready_wf {p : Wp} (h : POkP p) : RWF (readyP p) := by
  have hfew := h.few
  refine ⟨by unfold readyP; rw [List.length_map]; exact hfew, fun i g hg => ?_⟩
  unfold readyP at hg
  rw [List.getElem?_map] at hg
  cases hx : p.funs[i]? with
  | none => rw [hx] at hg; cases hg
  | some f =>
    rw [hx] at hg
    simp only [Option.map_some, Option.some.injEq] at hg
    subst hg
    have hmem := List.mem_of_getElem? hx
    have hf := h.each f hmem
    obtain ⟨j, z, hcode, hz⟩ := hf.last
    have hl : (readyC f.code).length = (nl f.code).length := by unfold readyC; rw [List.length_map]
    have hnl : nl f.code = nl j ++ [z] := by rw [hcode, nl_append, nl_one hz]
    have h1 := nl_le f.code
    have h2 := sumC_mem hmem
    have h3 := h.lines
    have hp := hf.par
    refine ⟨?_, ?_, ?_, fun k q hq => qwf_of h hf (by omega) k q hq⟩
    · show f.params.toNat ≤ 4; omega
    · show 1 ≤ (readyC f.code).length; rw [hl, hnl]; simp
    · show (readyC f.code).length ≤ 4194304; omega

theorem ready_kd {p : Wp} (h : POkP p) : RKd (readyP p) := by
  intro i g hg k q hq
  unfold readyP at hg
  rw [List.getElem?_map] at hg
  cases hx : p.funs[i]? with
  | none => rw [hx] at hg; cases hg
  | some f =>
    rw [hx] at hg
    simp only [Option.map_some, Option.some.injEq] at hg
    subst hg
    have hf := h.each f (List.mem_of_getElem? hx)
    simp only [readyC] at hq
    rw [List.getElem?_map] at hq
    cases hy : (nl f.code)[k]? with
    | none => rw [hy] at hq; cases hq
    | some x =>
      rw [hy] at hq
      simp only [Option.map_some, Option.some.injEq] at hq
      have hm := List.mem_of_getElem? hy
      have hok := hf.each x (List.mem_filter.1 hm).1
      have hn : x.k ≠ 19 := by
        unfold nl at hm
        have := (List.mem_filter.1 hm).2
        simpa using this
      have h1 := hok.kd
      have hk : q.kind = x.k.toNat := by rw [← hq]; rfl
      rw [hk]
      unfold isKind isVal
      omega
end Go.Proofs.YtoidddfpekbliaaGreat
namespace Go.Proofs.YtoidddfpekbliaaGreat
set_option linter.unusedSimpArgs false
set_option linter.unusedVariables false
open Go.RowKit
attribute [local go_sem ↓] Go.wp_at_zero Go.wp_at_succ

def eQ (q : RCode) : List Value := [.int .u8 (q.kind : Int), .int .u8 (q.how : Int), .int .u8 (q.count : Int), .int .u32 (q.d : Int), .int .i32 q.to_, .int .u64 q.imm, .int .u32 (q.frm 0 : Int), .int .u32 (q.frm 1 : Int), .int .u32 (q.frm 2 : Int), .int .u32 (q.frm 3 : Int), .int .u32 (q.frm 4 : Int)]
theorem code_info : (Tryz.prog.info? 180).map (fun i => (i.zero, i.size, i.bytes)) = some (some (.agg #[.int .u8 0, .int .u8 0, .int .u8 0, .int .u32 0, .int .i32 0, .int .u64 0, .int .u32 0, .int .u32 0, .int .u32 0, .int .u32 0, .int .u32 0]), 11, 48) := by kernel_rfl
theorem i32_info : (Tryz.prog.info? 21).map (fun i => (i.zero, i.size, i.bytes)) = some (some (.int .i32 0), 1, 4) := by kernel_rfl

theorem make_places (n : Nat) (hn : n ≤ 2147483648) : ∃ M : Array Value, M.size = n ∧ ∀ W : World, (Instr.makeSlice 216 (.int .i64 (n : Int)) (.int .i64 (n : Int))).run Tryz.prog W = .ok (.slice (some ⟨W.heap.size, 0, none⟩) n n) (W.alloc (.cells M 21)) := by
  obtain ⟨i, hi, z0, z1, z2⟩ := info_parts i32_info
  refine ⟨madeCells (Value.int .i32 0).cells (((n : Nat) : Int).toNat * i.size), by rw [size_madeCells, z1]; simp, fun W => ?_⟩
  have h := run_make (P := Tryz.prog) W 216 21 i (.int .i32 0) Tryz.underlying216 hi z0 .i64 .i64 (n : Int) (n : Int) (by omega) (by omega) (by rw [z2]; omega) (by omega)
  simpa using h

/-- room for instructions; how many they are is an int32 -/
theorem make_codes (n : Nat) (hn : n ≤ 4194304) : ∃ M : Array Value, ∀ W : World, (Instr.makeSlice 119 (.int .i64 0) (.int .i32 (n : Int))).run Tryz.prog W = .ok (.slice (some ⟨W.heap.size, 0, none⟩) 0 n) (W.alloc (.cells M 180)) ∧ LR 11 eQ (W.alloc (.cells M 180)) (.slice (some ⟨W.heap.size, 0, none⟩) 0 n) [] := by
  obtain ⟨i, hi, z0, z1, z2⟩ := info_parts code_info
  refine ⟨madeCells (Value.agg #[.int .u8 0, .int .u8 0, .int .u8 0, .int .u32 0, .int .i32 0, .int .u64 0, .int .u32 0, .int .u32 0, .int .u32 0, .int .u32 0, .int .u32 0]).cells (((n : Nat) : Int).toNat * i.size), fun W => ⟨?_, ?_, fun k hk => by cases hk⟩⟩
  · have h := run_make (P := Tryz.prog) W 119 180 i _ Tryz.underlying119 hi z0 .i64 .i32 0 (n : Int) (by omega) (by omega) (by rw [z2, Int.mul_comm]; omega) (by omega)
    simpa using h
  · have hh := heap_alloc_new W (.cells (madeCells (Value.agg #[.int .u8 0, .int .u8 0, .int .u8 0, .int .u32 0, .int .i32 0, .int .u64 0, .int .u32 0, .int .u32 0, .int .u32 0, .int .u32 0, .int .u32 0]).cells (((n : Nat) : Int).toNat * i.size)) 180)
    refine .inr ⟨W.heap.size, n, rfl, by simp, Nat.zero_le _, by unfold maxLen; omega, fun j hj => ⟨?_, ?_⟩⟩
    · have : (W.alloc (.cells (madeCells (Value.agg #[.int .u8 0, .int .u8 0, .int .u8 0, .int .u32 0, .int .i32 0, .int .u64 0, .int .u32 0, .int .u32 0, .int .u32 0, .int .u32 0, .int .u32 0]).cells (((n : Nat) : Int).toNat * i.size)) 180)).cell? ⟨W.heap.size, j, none⟩ = (madeCells (Value.agg #[.int .u8 0, .int .u8 0, .int .u8 0, .int .u32 0, .int .i32 0, .int .u64 0, .int .u32 0, .int .u32 0, .int .u32 0, .int .u32 0, .int .u32 0]).cells (((n : Nat) : Int).toNat * i.size))[j]? := World.cell?_alloc_mark W _ _ _ j
      rw [this, Array.getElem?_eq_getElem (by rw [size_madeCells, z1]; simpa using hj)]; rfl
    · simp only [World.frozen?, hh]; simp

/-- what the second loop keeps -/
structure RC2 (w : World) (pg mb N : Nat) (m : Int → Option Nat) (pls : List Int) (v : Value) (rs : List RCode) (wr : World) : Prop where
  out : LR 11 eQ wr v rs
  own : ∀ g, v.ownBlock = some g → w.heap.size ≤ g ∧ g ≠ pg ∧ g ≠ mb
  pl : ∀ i (hi : i < pls.length), wr.cell? ⟨pg, i, none⟩ = some (.int .i32 pls[i])
  mp : IM .i64 3 wr mb N m
  pgl : pg < wr.heap.size
  tn : Tn No w wr

theorem RC2.no {w : World} {pg mb N : Nat} {m : Int → Option Nat} {pls : List Int} {v : Value} {rs : List RCode} {wr w' : World} (h : RC2 w pg mb N m pls v rs wr) (t : Tn No wr w') : RC2 w pg mb N m pls v rs w' :=
  ⟨h.out.no t, h.own, fun i hi => by rw [t.cell h.pgl (fun e => e)]; exact h.pl i hi, h.mp.kept (t.block _ h.mp.lt (fun e => e)), Nat.lt_of_lt_of_le h.pgl t.size, h.tn.then t⟩

theorem RC2.push {w : World} {pg mb N : Nat} {m : Int → Option Nat} {pls : List Int} {v : Value} {rs : List RCode} {wr : World} (h : RC2 w pg mb N m pls v rs wr) (q : RCode) (b : Nat) (hb : ∀ j u, (eQ q)[j]? = some u → wr.cell? ⟨b, j, none⟩ = some u) (hl : rs.length + 1 ≤ 4194304) :
    ∃ v' w', (Builtin.append_ #[119, 119] 119 #[v, .slice (some ⟨b, 0, none⟩) 1 1]).run Tryz.prog wr = .ok v' w' ∧ RC2 w pg mb N m pls v' (rs ++ [q]) w' := by
  obtain ⟨v', w', h1, h2, h3, h4⟩ := lr_push (size := 11) (en := eQ) Tryz.underlying119 code_info rfl (by omega) h.out q rfl (by intro u hu; simp only [eQ, List.mem_cons, List.not_mem_nil, or_false] at hu; rcases hu with rfl | rfl | rfl | rfl | rfl | rfl | rfl | rfl | rfl | rfl | rfl <;> rfl) b hb (by unfold maxLen; omega) (by omega) 119
  refine ⟨v', w', h1, h2, fun g hg => ?_, fun i hi => ?_, ?_, Nat.lt_of_lt_of_le h.pgl h3.size, h.tn.grown h3 (fun i e hi => by have := (h.own i e).1; omega)⟩
  · rcases h4 with e | e
    · exact h.own g (by rw [← e]; exact hg)
    · rw [e] at hg; cases hg
      exact ⟨h.tn.size, fun e => by have := h.pgl; omega, fun e => by have := h.mp.lt; omega⟩
  · rw [World.cell?_of_block (w := wr) (a := ⟨pg, i, none⟩) (h3.block _ h.pgl (fun e => (h.own pg e.symm).2.1 rfl))]
    exact h.pl i hi
  · exact h.mp.kept (h3.block _ h.mp.lt (fun e => (h.own mb e.symm).2.2 rfl))
end Go.Proofs.YtoidddfpekbliaaGreat
