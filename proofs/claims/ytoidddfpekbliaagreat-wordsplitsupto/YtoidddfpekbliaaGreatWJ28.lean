/-
  word: a step: a store. Made by gen_wstep.py.
-/
import Derived.Test.YtoidddfpekbliaaGreatWJ25
import Derived.BigQuiet
namespace Go.Proofs.YtoidddfpekbliaaGreat
set_option linter.unusedSimpArgs false
set_option linter.unusedVariables false
open Go.RowKit
attribute [local go_sem ↓] Go.wp_at_zero Go.wp_at_succ

section
variable {p N fb pw : Nat} {R : List RFun} {strict : Bool} {X : PSt} {b cap : Nat} {vd vh : Value} {fc c : Nat → Value} {w : World} {L : Nat → Option Lb} {Lw : Nat → Option Lab} {fs : List Fr} {g : Fr}
variable {rf : RFun} {q : RCode}

set_option maxHeartbeats 8000000 in
set_option maxRecDepth 100000 in
theorem step_store (hR : RWF R) (h : PR p N fb pw R strict X b cap vd vh fc c w L Lw) (hf : X.fs = fs ++ [g]) (hg : R[g.fn]? = some rf) (hq : rf.code[g.at_]? = some q) (hset : ∀ i, i < q.count → (g.regs (q.frm i)).isSome = true) (hk : q.kind = 18) (hN : N < 4611686018427387900) (M' : Mem) (hH : X.M.store (IntKind.u64.wrap (xsOf g q 0 + q.imm)) q.how (xsOf g q 1) = some M') : Calls Tryz.prog 48 #[.pointer (some ⟨p, 0, none⟩)] w fun e w' => e = .returned (.bool true) ∧ PL p (N + 2) fb pw R strict { X with M := M', fs := fs ++ [{ g with at_ := g.at_ + 1 }] } w L Lw w' := by
  have hwf := (hR.fn g.fn rf hg).2.2.2 g.at_ q hq
  have hcl := (hR.fn g.fn rf hg).2.2.1
  obtain ⟨cb, ccap, ocap, hsi, hcc, hoc, hmost, hlc⟩ := h.si hf hg hq
  have hat : g.at_ < rf.code.length := (List.getElem?_eq_some_iff.1 hq).1
  have hcnt := hwf.cnt
  have HSI : Hid (∀ u, Tn No w u → SI p b fb fs.length cb ccap ocap g rf q u) := hid (fun u t => hsi.no t)
  have HXN : Hid (∀ u, Tn No w u → u.heap.size = w.heap.size → XA w.heap.size (xsOf g q) 0 (u.alloc (.cells #[.int .u64 0, .int .u64 0, .int .u64 0, .int .u64 0, .int .u64 0] 182))) := hid (fun u t e => by rw [← e]; exact XA.new u _ _)

  have HGET : Hid (∀ u j, Tn No w u → j < q.count → Calls Tryz.prog 78 #[.pointer (some ⟨b, fs.length * 8 + 2, none⟩), .int .u64 (q.frm j : Int)] u fun e w' => e = .returned (.tuple #[.int .u64 (xsOf g q j), .bool true]) ∧ w' = u) := hid (fun u j t hj => by
    have := h.gets hf u t (q.frm j) (by have := hwf.fr j (by omega); omega)
    rw [hset j hj] at this
    have e : xsOf g q j = (g.regs (q.frm j)).getD 0 := by unfold xsOf; rw [if_pos hj]
    rw [e]
    exact this)

  have hox := h.newb
  have hs := hwf.size (.inr hk)
  have hh8 := hwf.hw
  have HMS : Hid (∀ u, Tn No w u → VI u cb (g.at_ * 11) w.heap.size q (xsOf g q) → Calls Tryz.prog 54 #[.pointer (some ⟨p, 1, none⟩), .int .u64 (IntKind.u64.wrap (xsOf g q 0 + q.imm)), .int .i64 (q.how : Int), .int .u64 (xsOf g q 1)] u fun e w' => e = .returned (.bool true) ∧ (w'.cell? ⟨w.heap.size, 0, none⟩ = some (.int .u64 (xsOf g q 0)) ∧ w'.cell? ⟨w.heap.size, 1, none⟩ = some (.int .u64 (xsOf g q 1)) ∧ w'.cell? ⟨cb, g.at_ * 11 + 5, none⟩ = some (.int .u64 q.imm) ∧ w'.cell? ⟨cb, g.at_ * 11 + 1, none⟩ = some (.int .u8 (q.how : Int))) ∧ (w'.cell? ⟨b, fs.length * 8 + 1, none⟩ = some (.int .i64 (g.at_ : Int)) ∧ w'.frozen? ⟨b, fs.length * 8 + 1, none⟩ = false ∧ b < w'.heap.size) ∧ ∀ u2, Tn No w' u2 → PL p (N + 2) fb pw R strict { X with M := M', fs := fs ++ [{ g with at_ := g.at_ + 1 }] } w L Lw (u2.setCell ⟨b, fs.length * 8 + 1, none⟩ (.int .i64 ((g.at_ : Int) + 1)))) := hid (fun u t hvi => by
    refine (mstore_raw (h.no t).mb _ _ _ (by rcases hs with e | e | e <;> rw [e] <;> simp) hN).mono ?_
    rintro e w' ⟨rfl, hm⟩
    rw [hH] at hm ⊢
    have hq2 := (h.no t).memQ (Nat.le_add_right N 2) hm
    have hv2 := hvi.pq hlc hox hq2
    obtain ⟨i1, i2⟩ := hq2.inc (fs := fs) (g := g) hf
    refine ⟨rfl, ⟨hv2.x 0 (by omega), hv2.x 1 (by omega), hv2.q.k5, hv2.q.k1⟩, i1, fun u2 t2 => ?_⟩
    exact (i2 u2 t2).trans t.any (fun _ _ a b => ⟨a, b⟩))
  clear hox hs hH
  obtain ⟨xs, hxs⟩ : ∃ xs, xsOf g q = xs := ⟨_, rfl⟩
  have hx0 : ∀ i, q.count ≤ i → xs i = 0 := fun i hi => by rw [← hxs]; unfold xsOf; rw [if_neg (by omega)]
  have hfr := hwf.fr

  rw [hxs] at HGET HXN
  rw [hxs] at HMS
  obtain ⟨n, hn⟩ : ∃ n, fs.length = n := ⟨_, rfl⟩
  obtain ⟨cl, hc⟩ : ∃ cl, rf.code.length = cl := ⟨_, rfl⟩
  obtain ⟨a, ha⟩ : ∃ a, g.at_ = a := ⟨_, rfl⟩
  obtain ⟨cnt, hct⟩ : ∃ cnt, q.count = cnt := ⟨_, rfl⟩
  obtain ⟨fn, hfn⟩ : ∃ fn, g.fn = fn := ⟨_, rfl⟩
  obtain ⟨frm, hfm⟩ : ∃ frm, q.frm = frm := ⟨_, rfl⟩
  have s0 := (HSI.out w (Tn.refl _ _)).ov
  have s1 := (HSI.out w (Tn.refl _ _)).pl
  have s2 := (HSI.out w (Tn.refl _ _)).bl
  have s3 := (HSI.out w (Tn.refl _ _)).fl
  have s4 := (HSI.out w (Tn.refl _ _)).cl
  have s5 := (HSI.out w (Tn.refl _ _)).f0
  have s6 := (HSI.out w (Tn.refl _ _)).f1
  have s7 := (HSI.out w (Tn.refl _ _)).cd
  have s8 : ∀ k, ((w.drewN k).alloc (.cells #[.int .u64 0, .int .u64 0, .int .u64 0, .int .u64 0, .int .u64 0] 182)).cell? ⟨cb, g.at_ * 11 + 2, none⟩ = some (.int .u8 (q.count : Int)) := fun k => (HSI.out _ (((Tn.refl No w).drewN k).alloc _)).q.k2
  rw [hn] at s0 s5 s6 hoc hmost
  rw [hfn] at s5 s7
  rw [ha] at s6 s8 hat
  rw [hc] at s7 hcl hcc hat
  rw [hct] at s8 hcnt hx0
  rw [hfm] at hfr
  have a0 : (0 : Int) ≤ (n : Int) := by omega
  have y3' : (n : Int) ≤ 1048575 := by omega
  have y4' : (n : Int) ≤ 4611686018427387904 := Int.le_trans y3' (by decide)
  have b0 : (0 : Int) ≤ (a : Int) := by omega
  have b1' : (a : Int) < (cl : Int) := by omega
  have b2 : (cl : Int) ≤ 4194304 := by omega
  have ci : (cnt : Int) ≤ 5 := by omega
  have a1 : (n : Int) < (n : Int) + 1 := by omega
  have a2 : ((n + 1 : Nat) : Int) - 1 = (n : Int) := by omega
  have w0 := wrap64_small (n : Int) a0 y4'
  have w1' := wrapi_small (n : Int) a0 y4'
  have w2' : IntKind.i64.wrap ((n : Int) + 1 - 1) = n := by rw [Int.add_sub_cancel]; exact w1'

  have HNM := hid (And.intro hn (And.intro hfn (And.intro ha hfm)))
  have HCT := hid hct
  have HKD := hid hk
  clear hwf hR h hf hg hq hset hsi hxs hn hc ha hct hfn hfm hlc hk
  go_enter Tryz.func48, Tryz.ntmps48
  go_wp2_with fail
  go_quiet (fail)
  go_wp2_with fail
  go_quiet (fail)
  go_wp2_with fail

  clear s0 s5 s6 s7 s8 w0 w1' w2' a1 a2 s1 s2 s3 s4
  go_loopw [6, 7, 8, 38] (fun _ _ _ i wr => ∃ j : Nat, j ≤ cnt ∧ i = .int .u8 (j : Int) ∧ Tn No w wr ∧ XA w.heap.size xs j wr) (fun _ _ _ i _ => cnt - (intOf i).toNat)
  case atStart => exact ⟨0, by omega, rfl, (by repeat (first | exact Tn.refl _ _ | apply Tn.drew | apply Tn.drewN | apply Tn.alloc | (refine Tn.then ?_ (by assumption)) | (refine Tn.thenNo ?_ (by assumption)))), HXN.out _ (by repeat (first | exact Tn.refl _ _ | apply Tn.drew | apply Tn.drewN | apply Tn.alloc | (refine Tn.then ?_ (by assumption)) | (refine Tn.thenNo ?_ (by assumption)))) rfl⟩
  case round =>
    obtain ⟨j, hj, rfl, twr, hxa⟩ := hrel
    by_cases hlt : j < cnt
    · have hsw := HSI.out wr twr
      have t0 := hsw.f0
      have t1 := hsw.bl
      have t2 := hsw.cl
      have t3 := hsw.q.k6 j (by omega)
      rw [HNM.out.1] at t0
      rw [HNM.out.2.1] at t0
      rw [HNM.out.2.2.1, HNM.out.2.2.2] at t3
      have HG := hid (fun u t => HGET.out u j (twr.then t) (by have := HCT.out; omega))
      rw [HNM.out.1, HNM.out.2.2.2] at HG
      have x0 := hxa.at' j (by omega)
      rw [if_neg (by omega)] at x0
      have x1 := hxa.lt
      have x2 := hxa.fz j
      have HST := hid (fun u (t : Tn No wr u) => (hxa.no t).step (j := j) (by omega))
      have HTW := hid twr
      have j1 : (j : Int) < (cnt : Int) := by omega
      have j2 : (j : Int) < 5 := by omega
      have j3 : (0 : Int) ≤ (frm j : Int) := by omega
      have j4 : (frm j : Int) ≤ 4294967295 := by have := hfr j (by omega); omega
      have j5 := wrapu_small (frm j : Int) j3 (by omega)
      clear hsw hxa twr
      go_wp2_with fail
      go_quiet ((go_at_call 78; exact Calls.quiet_of_same (HG.out _ (by repeat (first | exact Tn.refl _ _ | apply Tn.drew | apply Tn.drewN | apply Tn.alloc | (refine Tn.then ?_ (by assumption)) | (refine Tn.thenNo ?_ (by assumption)))))))
      go_wp2_with fail
      go_roundw
      case rel => exact ⟨j + 1, by omega, by go_num, ((HTW.out.drewN _).set _ _ (by intro h; simp at h)), HST.out _ ((Tn.refl No wr).drewN _)⟩
      case measure => simp [intOf]; omega
    · obtain rfl : j = cnt := by omega
      have hsw := HSI.out wr twr
      have hxi : ∀ i, i < 5 → wr.cell? ⟨w.heap.size, i, none⟩ = some (.int .u64 (xs i)) := fun i hi => by
        rw [hxa.at' i hi]
        by_cases e : i < j
        · rw [if_pos e]
        · rw [if_neg e, hx0 i (by omega)]
      have HTW := hid twr
      have t0 := hsw.f0
      have t1 := hsw.f1
      have t2 := hsw.z1
      have t3 := hsw.bl
      have t4 := hsw.cl
      have t5 := hsw.q.k0
      rw [HNM.out.1, HNM.out.2.1] at t0
      rw [HNM.out.1, HNM.out.2.2.1] at t1
      rw [HNM.out.1] at t2
      rw [HNM.out.2.2.1, HKD.out] at t5
      have xl := hxa.lt

      have HVI : Hid (VI wr cb (g.at_ * 11) w.heap.size q xs) := hid ⟨hsw.cl, hsw.q, xl, hxi⟩
      have HMA : Hid (∀ u, Tn No wr u → _) := hid (fun u (t : Tn No wr u) => HMS.out u (HTW.out.then t) (HVI.out.no t))
      rw [HNM.out.1, HNM.out.2.2.1] at HMA
      have t6 := hsw.q.k5
      have t7 := hsw.q.k1
      rw [HNM.out.2.2.1] at t6 t7
      have pl := hsw.pl
      have x0 := hxi 0 (by omega)
      have x1 := hxi 1 (by omega)
      obtain ⟨hw8, hhw⟩ : ∃ hw8, q.how = hw8 := ⟨_, rfl⟩
      obtain ⟨im, him⟩ : ∃ im, q.imm = im := ⟨_, rfl⟩
      rw [hhw] at t7 HMA hh8
      rw [him] at t6 HMA
      obtain ⟨y0, hy0⟩ : ∃ y0, xs 0 = y0 := ⟨_, rfl⟩
      obtain ⟨y1, hy1⟩ : ∃ y1, xs 1 = y1 := ⟨_, rfl⟩
      rw [hy0] at x0 HMA
      rw [hy1] at x1 HMA
      obtain ⟨v1, v2⟩ := u8_i64 hw8 hh8
      have a9 : (a : Int) + 1 ≤ 4194305 := by omega
      clear hsw hxa twr hxi HGET HXN HSI HMS HVI hhw him hy0 hy1 hx0
      go_wp2_with fail
      go_region_held3 (fun w' => w'.cell? ⟨w.heap.size, 0, none⟩ = some (.int .u64 y0) ∧ w'.cell? ⟨w.heap.size, 1, none⟩ = some (.int .u64 y1) ∧ w'.cell? ⟨cb, a * 11 + 5, none⟩ = some (.int .u64 im) ∧ w'.cell? ⟨cb, a * 11 + 1, none⟩ = some (.int .u8 (hw8 : Int))) (go_keep) (first
        | (go_at_call 54; refine (HMA.out _ (by repeat (first | exact Tn.refl _ _ | apply Tn.drew | apply Tn.drewN | apply Tn.alloc | (refine Tn.then ?_ (by assumption)) | (refine Tn.thenNo ?_ (by assumption))))).mono ?_; rintro e w2 ⟨rfl, ⟨z1, z2, z3, z4⟩, ⟨z5, z6, z7⟩, hfin⟩; have HF := hid hfin; clear hfin))
      go_wp2
      go_ret
      rw [HNM.out.2.2.1]
      exact ⟨rfl, HF.out _ (by repeat (first | exact Tn.refl _ _ | apply Tn.drew | apply Tn.drewN | apply Tn.alloc | (refine Tn.then ?_ (by assumption)) | (refine Tn.thenNo ?_ (by assumption))))⟩
end
end Go.Proofs.YtoidddfpekbliaaGreat
namespace Go.Proofs.YtoidddfpekbliaaGreat
set_option linter.unusedSimpArgs false
set_option linter.unusedVariables false
open Go.RowKit
attribute [local go_sem ↓] Go.wp_at_zero Go.wp_at_succ

section
variable {p N fb pw : Nat} {R : List RFun} {strict : Bool} {X : PSt} {b cap : Nat} {vd vh : Value} {fc c : Nat → Value} {w : World} {L : Nat → Option Lb} {Lw : Nat → Option Lab} {fs : List Fr} {g : Fr}
variable {rf : RFun} {q : RCode}

set_option maxHeartbeats 8000000 in
set_option maxRecDepth 100000 in
theorem step_nostore (hR : RWF R) (h : PR p N fb pw R strict X b cap vd vh fc c w L Lw) (hf : X.fs = fs ++ [g]) (hg : R[g.fn]? = some rf) (hq : rf.code[g.at_]? = some q) (hset : ∀ i, i < q.count → (g.regs (q.frm i)).isSome = true) (hk : q.kind = 18) (hN : N < 4611686018427387900) (hH : X.M.store (IntKind.u64.wrap (xsOf g q 0 + q.imm)) q.how (xsOf g q 1) = none) : Calls Tryz.prog 48 #[.pointer (some ⟨p, 0, none⟩)] w fun e w' => e = .returned (.bool false) ∧ PL p (N + 2) fb pw R strict X w L Lw w' := by
  have hwf := (hR.fn g.fn rf hg).2.2.2 g.at_ q hq
  have hcl := (hR.fn g.fn rf hg).2.2.1
  obtain ⟨cb, ccap, ocap, hsi, hcc, hoc, hmost, hlc⟩ := h.si hf hg hq
  have hat : g.at_ < rf.code.length := (List.getElem?_eq_some_iff.1 hq).1
  have hcnt := hwf.cnt
  have HSI : Hid (∀ u, Tn No w u → SI p b fb fs.length cb ccap ocap g rf q u) := hid (fun u t => hsi.no t)
  have HXN : Hid (∀ u, Tn No w u → u.heap.size = w.heap.size → XA w.heap.size (xsOf g q) 0 (u.alloc (.cells #[.int .u64 0, .int .u64 0, .int .u64 0, .int .u64 0, .int .u64 0] 182))) := hid (fun u t e => by rw [← e]; exact XA.new u _ _)

  have HGET : Hid (∀ u j, Tn No w u → j < q.count → Calls Tryz.prog 78 #[.pointer (some ⟨b, fs.length * 8 + 2, none⟩), .int .u64 (q.frm j : Int)] u fun e w' => e = .returned (.tuple #[.int .u64 (xsOf g q j), .bool true]) ∧ w' = u) := hid (fun u j t hj => by
    have := h.gets hf u t (q.frm j) (by have := hwf.fr j (by omega); omega)
    rw [hset j hj] at this
    have e : xsOf g q j = (g.regs (q.frm j)).getD 0 := by unfold xsOf; rw [if_pos hj]
    rw [e]
    exact this)

  have hox := h.newb
  have hs := hwf.size (.inr hk)
  have hh8 := hwf.hw
  have HMS : Hid (∀ u, Tn No w u → VI u cb (g.at_ * 11) w.heap.size q (xsOf g q) → Calls Tryz.prog 54 #[.pointer (some ⟨p, 1, none⟩), .int .u64 (IntKind.u64.wrap (xsOf g q 0 + q.imm)), .int .i64 (q.how : Int), .int .u64 (xsOf g q 1)] u fun e w' => e = .returned (.bool false) ∧ (w'.cell? ⟨w.heap.size, 0, none⟩ = some (.int .u64 (xsOf g q 0)) ∧ w'.cell? ⟨w.heap.size, 1, none⟩ = some (.int .u64 (xsOf g q 1)) ∧ w'.cell? ⟨cb, g.at_ * 11 + 5, none⟩ = some (.int .u64 q.imm) ∧ w'.cell? ⟨cb, g.at_ * 11 + 1, none⟩ = some (.int .u8 (q.how : Int))) ∧ (w'.cell? ⟨b, fs.length * 8 + 1, none⟩ = some (.int .i64 (g.at_ : Int)) ∧ w'.frozen? ⟨b, fs.length * 8 + 1, none⟩ = false ∧ b < w'.heap.size) ∧ ∀ u2, Tn No w' u2 → PL p (N + 2) fb pw R strict X w L Lw u2) := hid (fun u t hvi => by
    refine (mstore_raw (h.no t).mb _ _ _ (by rcases hs with e | e | e <;> rw [e] <;> simp) hN).mono ?_
    rintro e w' ⟨rfl, hm⟩
    rw [hH] at hm ⊢
    have hq2 := (h.no t).memQ (Nat.le_add_right N 2) hm
    have hv2 := hvi.pq hlc hox hq2
    obtain ⟨i1, i2⟩ := hq2.inc (fs := fs) (g := g) hf
    refine ⟨rfl, ⟨hv2.x 0 (by omega), hv2.x 1 (by omega), hv2.q.k5, hv2.q.k1⟩, i1, fun u2 t2 => ?_⟩
    exact (hq2.then_no t2).trans t.any (fun _ _ a b => ⟨a, b⟩))
  clear hox hs hH
  obtain ⟨xs, hxs⟩ : ∃ xs, xsOf g q = xs := ⟨_, rfl⟩
  have hx0 : ∀ i, q.count ≤ i → xs i = 0 := fun i hi => by rw [← hxs]; unfold xsOf; rw [if_neg (by omega)]
  have hfr := hwf.fr

  rw [hxs] at HGET HXN
  rw [hxs] at HMS
  obtain ⟨n, hn⟩ : ∃ n, fs.length = n := ⟨_, rfl⟩
  obtain ⟨cl, hc⟩ : ∃ cl, rf.code.length = cl := ⟨_, rfl⟩
  obtain ⟨a, ha⟩ : ∃ a, g.at_ = a := ⟨_, rfl⟩
  obtain ⟨cnt, hct⟩ : ∃ cnt, q.count = cnt := ⟨_, rfl⟩
  obtain ⟨fn, hfn⟩ : ∃ fn, g.fn = fn := ⟨_, rfl⟩
  obtain ⟨frm, hfm⟩ : ∃ frm, q.frm = frm := ⟨_, rfl⟩
  have s0 := (HSI.out w (Tn.refl _ _)).ov
  have s1 := (HSI.out w (Tn.refl _ _)).pl
  have s2 := (HSI.out w (Tn.refl _ _)).bl
  have s3 := (HSI.out w (Tn.refl _ _)).fl
  have s4 := (HSI.out w (Tn.refl _ _)).cl
  have s5 := (HSI.out w (Tn.refl _ _)).f0
  have s6 := (HSI.out w (Tn.refl _ _)).f1
  have s7 := (HSI.out w (Tn.refl _ _)).cd
  have s8 : ∀ k, ((w.drewN k).alloc (.cells #[.int .u64 0, .int .u64 0, .int .u64 0, .int .u64 0, .int .u64 0] 182)).cell? ⟨cb, g.at_ * 11 + 2, none⟩ = some (.int .u8 (q.count : Int)) := fun k => (HSI.out _ (((Tn.refl No w).drewN k).alloc _)).q.k2
  rw [hn] at s0 s5 s6 hoc hmost
  rw [hfn] at s5 s7
  rw [ha] at s6 s8 hat
  rw [hc] at s7 hcl hcc hat
  rw [hct] at s8 hcnt hx0
  rw [hfm] at hfr
  have a0 : (0 : Int) ≤ (n : Int) := by omega
  have y3' : (n : Int) ≤ 1048575 := by omega
  have y4' : (n : Int) ≤ 4611686018427387904 := Int.le_trans y3' (by decide)
  have b0 : (0 : Int) ≤ (a : Int) := by omega
  have b1' : (a : Int) < (cl : Int) := by omega
  have b2 : (cl : Int) ≤ 4194304 := by omega
  have ci : (cnt : Int) ≤ 5 := by omega
  have a1 : (n : Int) < (n : Int) + 1 := by omega
  have a2 : ((n + 1 : Nat) : Int) - 1 = (n : Int) := by omega
  have w0 := wrap64_small (n : Int) a0 y4'
  have w1' := wrapi_small (n : Int) a0 y4'
  have w2' : IntKind.i64.wrap ((n : Int) + 1 - 1) = n := by rw [Int.add_sub_cancel]; exact w1'

  have HNM := hid (And.intro hn (And.intro hfn (And.intro ha hfm)))
  have HCT := hid hct
  have HKD := hid hk
  clear hwf hR h hf hg hq hset hsi hxs hn hc ha hct hfn hfm hlc hk
  go_enter Tryz.func48, Tryz.ntmps48
  go_wp2_with fail
  go_quiet (fail)
  go_wp2_with fail
  go_quiet (fail)
  go_wp2_with fail

  clear s0 s5 s6 s7 s8 w0 w1' w2' a1 a2 s1 s2 s3 s4
  go_loopw [6, 7, 8, 38] (fun _ _ _ i wr => ∃ j : Nat, j ≤ cnt ∧ i = .int .u8 (j : Int) ∧ Tn No w wr ∧ XA w.heap.size xs j wr) (fun _ _ _ i _ => cnt - (intOf i).toNat)
  case atStart => exact ⟨0, by omega, rfl, (by repeat (first | exact Tn.refl _ _ | apply Tn.drew | apply Tn.drewN | apply Tn.alloc | (refine Tn.then ?_ (by assumption)) | (refine Tn.thenNo ?_ (by assumption)))), HXN.out _ (by repeat (first | exact Tn.refl _ _ | apply Tn.drew | apply Tn.drewN | apply Tn.alloc | (refine Tn.then ?_ (by assumption)) | (refine Tn.thenNo ?_ (by assumption)))) rfl⟩
  case round =>
    obtain ⟨j, hj, rfl, twr, hxa⟩ := hrel
    by_cases hlt : j < cnt
    · have hsw := HSI.out wr twr
      have t0 := hsw.f0
      have t1 := hsw.bl
      have t2 := hsw.cl
      have t3 := hsw.q.k6 j (by omega)
      rw [HNM.out.1] at t0
      rw [HNM.out.2.1] at t0
      rw [HNM.out.2.2.1, HNM.out.2.2.2] at t3
      have HG := hid (fun u t => HGET.out u j (twr.then t) (by have := HCT.out; omega))
      rw [HNM.out.1, HNM.out.2.2.2] at HG
      have x0 := hxa.at' j (by omega)
      rw [if_neg (by omega)] at x0
      have x1 := hxa.lt
      have x2 := hxa.fz j
      have HST := hid (fun u (t : Tn No wr u) => (hxa.no t).step (j := j) (by omega))
      have HTW := hid twr
      have j1 : (j : Int) < (cnt : Int) := by omega
      have j2 : (j : Int) < 5 := by omega
      have j3 : (0 : Int) ≤ (frm j : Int) := by omega
      have j4 : (frm j : Int) ≤ 4294967295 := by have := hfr j (by omega); omega
      have j5 := wrapu_small (frm j : Int) j3 (by omega)
      clear hsw hxa twr
      go_wp2_with fail
      go_quiet ((go_at_call 78; exact Calls.quiet_of_same (HG.out _ (by repeat (first | exact Tn.refl _ _ | apply Tn.drew | apply Tn.drewN | apply Tn.alloc | (refine Tn.then ?_ (by assumption)) | (refine Tn.thenNo ?_ (by assumption)))))))
      go_wp2_with fail
      go_roundw
      case rel => exact ⟨j + 1, by omega, by go_num, ((HTW.out.drewN _).set _ _ (by intro h; simp at h)), HST.out _ ((Tn.refl No wr).drewN _)⟩
      case measure => simp [intOf]; omega
    · obtain rfl : j = cnt := by omega
      have hsw := HSI.out wr twr
      have hxi : ∀ i, i < 5 → wr.cell? ⟨w.heap.size, i, none⟩ = some (.int .u64 (xs i)) := fun i hi => by
        rw [hxa.at' i hi]
        by_cases e : i < j
        · rw [if_pos e]
        · rw [if_neg e, hx0 i (by omega)]
      have HTW := hid twr
      have t0 := hsw.f0
      have t1 := hsw.f1
      have t2 := hsw.z1
      have t3 := hsw.bl
      have t4 := hsw.cl
      have t5 := hsw.q.k0
      rw [HNM.out.1, HNM.out.2.1] at t0
      rw [HNM.out.1, HNM.out.2.2.1] at t1
      rw [HNM.out.1] at t2
      rw [HNM.out.2.2.1, HKD.out] at t5
      have xl := hxa.lt

      have HVI : Hid (VI wr cb (g.at_ * 11) w.heap.size q xs) := hid ⟨hsw.cl, hsw.q, xl, hxi⟩
      have HMA : Hid (∀ u, Tn No wr u → _) := hid (fun u (t : Tn No wr u) => HMS.out u (HTW.out.then t) (HVI.out.no t))
      rw [HNM.out.1, HNM.out.2.2.1] at HMA
      have t6 := hsw.q.k5
      have t7 := hsw.q.k1
      rw [HNM.out.2.2.1] at t6 t7
      have pl := hsw.pl
      have x0 := hxi 0 (by omega)
      have x1 := hxi 1 (by omega)
      obtain ⟨hw8, hhw⟩ : ∃ hw8, q.how = hw8 := ⟨_, rfl⟩
      obtain ⟨im, him⟩ : ∃ im, q.imm = im := ⟨_, rfl⟩
      rw [hhw] at t7 HMA hh8
      rw [him] at t6 HMA
      obtain ⟨y0, hy0⟩ : ∃ y0, xs 0 = y0 := ⟨_, rfl⟩
      obtain ⟨y1, hy1⟩ : ∃ y1, xs 1 = y1 := ⟨_, rfl⟩
      rw [hy0] at x0 HMA
      rw [hy1] at x1 HMA
      obtain ⟨v1, v2⟩ := u8_i64 hw8 hh8
      have a9 : (a : Int) + 1 ≤ 4194305 := by omega
      clear hsw hxa twr hxi HGET HXN HSI HMS HVI hhw him hy0 hy1 hx0
      go_wp2_with fail
      go_region_held3 (fun w' => w'.cell? ⟨w.heap.size, 0, none⟩ = some (.int .u64 y0) ∧ w'.cell? ⟨w.heap.size, 1, none⟩ = some (.int .u64 y1) ∧ w'.cell? ⟨cb, a * 11 + 5, none⟩ = some (.int .u64 im) ∧ w'.cell? ⟨cb, a * 11 + 1, none⟩ = some (.int .u8 (hw8 : Int))) (go_keep) (first
        | (go_at_call 54; refine (HMA.out _ (by repeat (first | exact Tn.refl _ _ | apply Tn.drew | apply Tn.drewN | apply Tn.alloc | (refine Tn.then ?_ (by assumption)) | (refine Tn.thenNo ?_ (by assumption))))).mono ?_; rintro e w2 ⟨rfl, ⟨z1, z2, z3, z4⟩, ⟨z5, z6, z7⟩, hfin⟩; have HF := hid hfin; clear hfin))
      go_wp2
      go_ret
      exact ⟨rfl, HF.out _ (by repeat (first | exact Tn.refl _ _ | apply Tn.drew | apply Tn.drewN | apply Tn.alloc | (refine Tn.then ?_ (by assumption)) | (refine Tn.thenNo ?_ (by assumption))))⟩
end
end Go.Proofs.YtoidddfpekbliaaGreat
