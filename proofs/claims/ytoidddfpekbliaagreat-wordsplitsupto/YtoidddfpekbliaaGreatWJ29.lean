/-
  word: a step: a slot is set. Made by gen_wstep.py.
-/
import Derived.Test.YtoidddfpekbliaaGreatWJ25
import Derived.BigQuiet
namespace Go.Proofs.YtoidddfpekbliaaGreat
set_option linter.unusedSimpArgs false
set_option linter.unusedVariables false
open Go.RowKit
attribute [local go_sem ↓] Go.wp_at_zero Go.wp_at_succ

section
variable {p N fb pw : Nat} {R : List RFun} {strict : Bool} {X : PSt} {b cap : Nat} {vd vh : Value} {fc c : Nat → Value} {w : World} {L : Nat → Option Lb} {Lw : Nat → Option Lab} {fs : List Fr} {g : Fr}
variable {rf : RFun} {q : RCode}

set_option maxHeartbeats 8000000 in
set_option maxRecDepth 100000 in
theorem step_put (hR : RWF R) (h : PR p N fb pw R strict X b cap vd vh fc c w L Lw) (hf : X.fs = fs ++ [g]) (hg : R[g.fn]? = some rf) (hq : rf.code[g.at_]? = some q) (hset : ∀ i, i < q.count → (g.regs (q.frm i)).isSome = true) (hk : q.kind = 32) (hN : N < 4611686018427387904) : Calls Tryz.prog 48 #[.pointer (some ⟨p, 0, none⟩)] w fun e w' => e = .returned (.bool true) ∧ PL p (N + 1) fb pw R strict { X with fs := fs ++ [{ g.setBank true (upd g.slots q.imm.toNat (some (xsOf g q 0))) with at_ := g.at_ + 1 }] } w L Lw w' := by
  have hwf := (hR.fn g.fn rf hg).2.2.2 g.at_ q hq
  have hcl := (hR.fn g.fn rf hg).2.2.1
  obtain ⟨cb, ccap, ocap, hsi, hcc, hoc, hmost, hlc⟩ := h.si hf hg hq
  have hat : g.at_ < rf.code.length := (List.getElem?_eq_some_iff.1 hq).1
  have hcnt := hwf.cnt
  have HSI : Hid (∀ u, Tn No w u → SI p b fb fs.length cb ccap ocap g rf q u) := hid (fun u t => hsi.no t)
  have HXN : Hid (∀ u, Tn No w u → u.heap.size = w.heap.size → XA w.heap.size (xsOf g q) 0 (u.alloc (.cells #[.int .u64 0, .int .u64 0, .int .u64 0, .int .u64 0, .int .u64 0] 182))) := hid (fun u t e => by rw [← e]; exact XA.new u _ _)

  have HGET : Hid (∀ u j, Tn No w u → j < q.count → Calls Tryz.prog 78 #[.pointer (some ⟨b, fs.length * 8 + 2, none⟩), .int .u64 (q.frm j : Int)] u fun e w' => e = .returned (.tuple #[.int .u64 (xsOf g q j), .bool true]) ∧ w' = u) := hid (fun u j t hj => by
    have := h.gets hf u t (q.frm j) (by have := hwf.fr j (by omega); omega)
    rw [hset j hj] at this
    have e : xsOf g q j = (g.regs (q.frm j)).getD 0 := by unfold xsOf; rw [if_pos hj]
    rw [e]
    exact this)

  have hox := h.newb
  have him := hwf.im
  have hu := xsOf_ok h hf q 0
  obtain ⟨i, hi⟩ : ∃ i : Nat, q.imm = (i : Int) := ⟨q.imm.toNat, by omega⟩
  have ei : q.imm.toNat = i := by rw [hi]; rfl
  rw [ei]
  have HIM := hid hi
  have HPT : Hid (∀ u, Tn No w u → VI u cb (g.at_ * 11) w.heap.size q (xsOf g q) → Calls Tryz.prog 82 #[.pointer (some ⟨b, fs.length * 8 + 5, none⟩), .int .u64 (i : Int), .int .u64 (xsOf g q 0), .pointer (some ⟨p, 13, none⟩)] u fun e w' => e = .returned (.tuple #[]) ∧ (w'.cell? ⟨w.heap.size, 0, none⟩ = some (.int .u64 (xsOf g q 0)) ∧ w'.cell? ⟨cb, g.at_ * 11 + 5, none⟩ = some (.int .u64 (i : Int))) ∧ (w'.cell? ⟨b, fs.length * 8 + 1, none⟩ = some (.int .i64 (g.at_ : Int)) ∧ w'.frozen? ⟨b, fs.length * 8 + 1, none⟩ = false ∧ b < w'.heap.size) ∧ ∀ u2, Tn No w' u2 → PL p (N + 1) fb pw R strict { X with fs := fs ++ [{ g.setBank true (upd g.slots i (some (xsOf g q 0))) with at_ := g.at_ + 1 }] } w L Lw (u2.setCell ⟨b, fs.length * 8 + 1, none⟩ (.int .i64 ((g.at_ : Int) + 1)))) := hid (fun u t hvi => by
    have hp := (h.no t).putQ hf true hN i (by omega) (xsOf g q 0) hu
    have e5 : bo fs.length true = fs.length * 8 + 5 := by unfold bo; simp; omega
    rw [e5] at hp
    refine hp.mono ?_
    rintro e w' ⟨rfl, hq2⟩
    have hv2 := hvi.pq hlc hox hq2
    obtain ⟨i1, i2⟩ := hq2.inc (fs := fs) (g := g.setBank true (upd g.slots i (some (xsOf g q 0)))) rfl
    refine ⟨rfl, ⟨hv2.x 0 (by omega), by rw [hv2.q.k5, hi]⟩, i1, fun u2 t2 => ?_⟩
    exact (i2 u2 t2).trans t.any (fun _ _ a b => ⟨a, b⟩))
  clear hox hu him hi ei
  obtain ⟨xs, hxs⟩ : ∃ xs, xsOf g q = xs := ⟨_, rfl⟩
  have hx0 : ∀ i, q.count ≤ i → xs i = 0 := fun i hi => by rw [← hxs]; unfold xsOf; rw [if_neg (by omega)]
  have hfr := hwf.fr

  rw [hxs] at HGET HXN
  rw [hxs] at HPT ⊢
  obtain ⟨n, hn⟩ : ∃ n, fs.length = n := ⟨_, rfl⟩
  obtain ⟨cl, hc⟩ : ∃ cl, rf.code.length = cl := ⟨_, rfl⟩
  obtain ⟨a, ha⟩ : ∃ a, g.at_ = a := ⟨_, rfl⟩
  obtain ⟨cnt, hct⟩ : ∃ cnt, q.count = cnt := ⟨_, rfl⟩
  obtain ⟨fn, hfn⟩ : ∃ fn, g.fn = fn := ⟨_, rfl⟩
  obtain ⟨frm, hfm⟩ : ∃ frm, q.frm = frm := ⟨_, rfl⟩
  have s0 := (HSI.out w (Tn.refl _ _)).ov
  have s1 := (HSI.out w (Tn.refl _ _)).pl
  have s2 := (HSI.out w (Tn.refl _ _)).bl
  have s3 := (HSI.out w (Tn.refl _ _)).fl
  have s4 := (HSI.out w (Tn.refl _ _)).cl
  have s5 := (HSI.out w (Tn.refl _ _)).f0
  have s6 := (HSI.out w (Tn.refl _ _)).f1
  have s7 := (HSI.out w (Tn.refl _ _)).cd
  have s8 : ∀ k, ((w.drewN k).alloc (.cells #[.int .u64 0, .int .u64 0, .int .u64 0, .int .u64 0, .int .u64 0] 182)).cell? ⟨cb, g.at_ * 11 + 2, none⟩ = some (.int .u8 (q.count : Int)) := fun k => (HSI.out _ (((Tn.refl No w).drewN k).alloc _)).q.k2
  rw [hn] at s0 s5 s6 hoc hmost
  rw [hfn] at s5 s7
  rw [ha] at s6 s8 hat
  rw [hc] at s7 hcl hcc hat
  rw [hct] at s8 hcnt hx0
  rw [hfm] at hfr
  have a0 : (0 : Int) ≤ (n : Int) := by omega
  have y3' : (n : Int) ≤ 1048575 := by omega
  have y4' : (n : Int) ≤ 4611686018427387904 := Int.le_trans y3' (by decide)
  have b0 : (0 : Int) ≤ (a : Int) := by omega
  have b1' : (a : Int) < (cl : Int) := by omega
  have b2 : (cl : Int) ≤ 4194304 := by omega
  have ci : (cnt : Int) ≤ 5 := by omega
  have a1 : (n : Int) < (n : Int) + 1 := by omega
  have a2 : ((n + 1 : Nat) : Int) - 1 = (n : Int) := by omega
  have w0 := wrap64_small (n : Int) a0 y4'
  have w1' := wrapi_small (n : Int) a0 y4'
  have w2' : IntKind.i64.wrap ((n : Int) + 1 - 1) = n := by rw [Int.add_sub_cancel]; exact w1'

  have HNM := hid (And.intro hn (And.intro hfn (And.intro ha hfm)))
  have HCT := hid hct
  have HKD := hid hk
  clear hwf hR h hf hg hq hset hsi hxs hn hc ha hct hfn hfm hlc hk
  go_enter Tryz.func48, Tryz.ntmps48
  go_wp2_with fail
  go_quiet (fail)
  go_wp2_with fail
  go_quiet (fail)
  go_wp2_with fail

  clear s0 s5 s6 s7 s8 w0 w1' w2' a1 a2 s1 s2 s3 s4
  go_loopw [6, 7, 8, 38] (fun _ _ _ i wr => ∃ j : Nat, j ≤ cnt ∧ i = .int .u8 (j : Int) ∧ Tn No w wr ∧ XA w.heap.size xs j wr) (fun _ _ _ i _ => cnt - (intOf i).toNat)
  case atStart => exact ⟨0, by omega, rfl, (by repeat (first | exact Tn.refl _ _ | apply Tn.drew | apply Tn.drewN | apply Tn.alloc | (refine Tn.then ?_ (by assumption)) | (refine Tn.thenNo ?_ (by assumption)))), HXN.out _ (by repeat (first | exact Tn.refl _ _ | apply Tn.drew | apply Tn.drewN | apply Tn.alloc | (refine Tn.then ?_ (by assumption)) | (refine Tn.thenNo ?_ (by assumption)))) rfl⟩
  case round =>
    obtain ⟨j, hj, rfl, twr, hxa⟩ := hrel
    by_cases hlt : j < cnt
    · have hsw := HSI.out wr twr
      have t0 := hsw.f0
      have t1 := hsw.bl
      have t2 := hsw.cl
      have t3 := hsw.q.k6 j (by omega)
      rw [HNM.out.1] at t0
      rw [HNM.out.2.1] at t0
      rw [HNM.out.2.2.1, HNM.out.2.2.2] at t3
      have HG := hid (fun u t => HGET.out u j (twr.then t) (by have := HCT.out; omega))
      rw [HNM.out.1, HNM.out.2.2.2] at HG
      have x0 := hxa.at' j (by omega)
      rw [if_neg (by omega)] at x0
      have x1 := hxa.lt
      have x2 := hxa.fz j
      have HST := hid (fun u (t : Tn No wr u) => (hxa.no t).step (j := j) (by omega))
      have HTW := hid twr
      have j1 : (j : Int) < (cnt : Int) := by omega
      have j2 : (j : Int) < 5 := by omega
      have j3 : (0 : Int) ≤ (frm j : Int) := by omega
      have j4 : (frm j : Int) ≤ 4294967295 := by have := hfr j (by omega); omega
      have j5 := wrapu_small (frm j : Int) j3 (by omega)
      clear hsw hxa twr
      go_wp2_with fail
      go_quiet ((go_at_call 78; exact Calls.quiet_of_same (HG.out _ (by repeat (first | exact Tn.refl _ _ | apply Tn.drew | apply Tn.drewN | apply Tn.alloc | (refine Tn.then ?_ (by assumption)) | (refine Tn.thenNo ?_ (by assumption)))))))
      go_wp2_with fail
      go_roundw
      case rel => exact ⟨j + 1, by omega, by go_num, ((HTW.out.drewN _).set _ _ (by intro h; simp at h)), HST.out _ ((Tn.refl No wr).drewN _)⟩
      case measure => simp [intOf]; omega
    · obtain rfl : j = cnt := by omega
      have hsw := HSI.out wr twr
      have hxi : ∀ i, i < 5 → wr.cell? ⟨w.heap.size, i, none⟩ = some (.int .u64 (xs i)) := fun i hi => by
        rw [hxa.at' i hi]
        by_cases e : i < j
        · rw [if_pos e]
        · rw [if_neg e, hx0 i (by omega)]
      have HTW := hid twr
      have t0 := hsw.f0
      have t1 := hsw.f1
      have t2 := hsw.z1
      have t3 := hsw.bl
      have t4 := hsw.cl
      have t5 := hsw.q.k0
      rw [HNM.out.1, HNM.out.2.1] at t0
      rw [HNM.out.1, HNM.out.2.2.1] at t1
      rw [HNM.out.1] at t2
      rw [HNM.out.2.2.1, HKD.out] at t5
      have xl := hxa.lt

      have HVI : Hid (VI wr cb (g.at_ * 11) w.heap.size q xs) := hid ⟨hsw.cl, hsw.q, xl, hxi⟩
      have HPA : Hid (∀ u, Tn No wr u → _) := hid (fun u (t : Tn No wr u) => HPT.out u (HTW.out.then t) (HVI.out.no t))
      rw [HNM.out.1, HNM.out.2.2.1] at HPA
      have t6 := hsw.q.k5
      rw [HNM.out.2.2.1, HIM.out] at t6
      have pl := hsw.pl
      have x0 := hxi 0 (by omega)
      obtain ⟨y0, hy0⟩ : ∃ y0, xs 0 = y0 := ⟨_, rfl⟩
      rw [hy0] at x0 HPA
      have HY0 := hid hy0
      have a9 : (a : Int) + 1 ≤ 4194305 := by omega
      clear hsw hxa twr hxi HGET HXN HSI HPT HVI hy0 hx0
      go_wp2_with fail
      go_region_held3 (fun w' => w'.cell? ⟨w.heap.size, 0, none⟩ = some (.int .u64 y0) ∧ w'.cell? ⟨cb, a * 11 + 5, none⟩ = some (.int .u64 (i : Int))) (go_keep) (first
        | (go_at_call 82; refine (HPA.out _ (by repeat (first | exact Tn.refl _ _ | apply Tn.drew | apply Tn.drewN | apply Tn.alloc | (refine Tn.then ?_ (by assumption)) | (refine Tn.thenNo ?_ (by assumption))))).mono ?_; rintro e w2 ⟨rfl, ⟨z1, z3⟩, ⟨z5, z6, z7⟩, hfin⟩; have HF := hid hfin; clear hfin))
      go_wp2
      go_ret
      rw [HNM.out.2.2.1, HY0.out]
      exact ⟨rfl, HF.out _ (by repeat (first | exact Tn.refl _ _ | apply Tn.drew | apply Tn.drewN | apply Tn.alloc | (refine Tn.then ?_ (by assumption)) | (refine Tn.thenNo ?_ (by assumption))))⟩
end
end Go.Proofs.YtoidddfpekbliaaGreat
namespace Go.Proofs.YtoidddfpekbliaaGreat
set_option linter.unusedSimpArgs false
set_option linter.unusedVariables false
open Go.RowKit
attribute [local go_sem ↓] Go.wp_at_zero Go.wp_at_succ

section
variable {p N fb pw : Nat} {R : List RFun} {strict : Bool} {X : PSt} {b cap : Nat} {vd vh : Value} {fc c : Nat → Value} {w : World} {L : Nat → Option Lb} {Lw : Nat → Option Lab} {fs : List Fr} {g : Fr}
variable {rf : RFun} {q : RCode}

set_option maxHeartbeats 8000000 in
set_option maxRecDepth 100000 in
theorem step_val (hR : RWF R) (h : PR p N fb pw R strict X b cap vd vh fc c w L Lw) (hf : X.fs = fs ++ [g]) (hg : R[g.fn]? = some rf) (hq : rf.code[g.at_]? = some q) (hset : ∀ i, i < q.count → (g.regs (q.frm i)).isSome = true) {K : Nat} (hk : isVal q.kind) (hw : WF X.S) (hN : N ≤ 545460846592) (hNK : N + 2 ≤ K) (hK : ∀ n : Nat, n ≤ 2147483648 → X.M.there (xsOf g q 1) n = true → N + 2 * n + 4 ≤ K) (v : Int) (X' : PSt) (hV : X.val g q (xsOf g q) = (v, true, X')) (hfs : X'.fs = fs ++ [g]) (hv : U64 v) (hKK : K < 4611686018427387904) : Calls Tryz.prog 48 #[.pointer (some ⟨p, 0, none⟩)] w fun e w' => e = .returned (.bool true) ∧ PL p (K + 1) fb pw R strict { X' with fs := fs ++ [{ g.setBank false (upd g.regs q.d (some v)) with at_ := g.at_ + 1 }] } w L Lw w' := by
  have hwf := (hR.fn g.fn rf hg).2.2.2 g.at_ q hq
  have hcl := (hR.fn g.fn rf hg).2.2.1
  obtain ⟨cb, ccap, ocap, hsi, hcc, hoc, hmost, hlc⟩ := h.si hf hg hq
  have hat : g.at_ < rf.code.length := (List.getElem?_eq_some_iff.1 hq).1
  have hcnt := hwf.cnt
  have HSI : Hid (∀ u, Tn No w u → SI p b fb fs.length cb ccap ocap g rf q u) := hid (fun u t => hsi.no t)
  have HXN : Hid (∀ u, Tn No w u → u.heap.size = w.heap.size → XA w.heap.size (xsOf g q) 0 (u.alloc (.cells #[.int .u64 0, .int .u64 0, .int .u64 0, .int .u64 0, .int .u64 0] 182))) := hid (fun u t e => by rw [← e]; exact XA.new u _ _)

  have HGET : Hid (∀ u j, Tn No w u → j < q.count → Calls Tryz.prog 78 #[.pointer (some ⟨b, fs.length * 8 + 2, none⟩), .int .u64 (q.frm j : Int)] u fun e w' => e = .returned (.tuple #[.int .u64 (xsOf g q j), .bool true]) ∧ w' = u) := hid (fun u j t hj => by
    have := h.gets hf u t (q.frm j) (by have := hwf.fr j (by omega); omega)
    rw [hset j hj] at this
    have e : xsOf g q j = (g.regs (q.frm j)).getD 0 := by unfold xsOf; rw [if_pos hj]
    rw [e]
    exact this)

  have hox := h.newb
  have huu := fun i (_ : i < 5) => xsOf_ok h hf q i
  have hd4 := hwf.d
  have hkd : q.kind ≤ 255 := hwf.kd
  have HVL : Hid (∀ u, Tn No w u → VI u cb (g.at_ * 11) w.heap.size q (xsOf g q) → Calls Tryz.prog 83 #[.pointer (some ⟨p, 0, none⟩), .pointer (some ⟨b, fs.length * 8, none⟩), .pointer (some ⟨cb, g.at_ * 11, none⟩), .pointer (some ⟨w.heap.size, 0, none⟩)] u fun e w' => e = .returned (.tuple #[.int .u64 v, .bool true]) ∧ (w'.cell? ⟨cb, g.at_ * 11 + 3, none⟩ = some (.int .u32 (q.d : Int)) ∧ b < w'.heap.size ∧ cb < w'.heap.size ∧ p < w'.heap.size) ∧ ∀ u1, Tn No w' u1 → Calls Tryz.prog 82 #[.pointer (some ⟨b, fs.length * 8 + 2, none⟩), .int .u64 (q.d : Int), .int .u64 v, .pointer (some ⟨p, 13, none⟩)] u1 fun e w' => e = .returned (.tuple #[]) ∧ w'.cell? ⟨cb, g.at_ * 11 + 3, none⟩ = some (.int .u32 (q.d : Int)) ∧ (w'.cell? ⟨b, fs.length * 8 + 1, none⟩ = some (.int .i64 (g.at_ : Int)) ∧ w'.frozen? ⟨b, fs.length * 8 + 1, none⟩ = false ∧ b < w'.heap.size) ∧ ∀ u2, Tn No w' u2 → PL p (K + 1) fb pw R strict { X' with fs := fs ++ [{ g.setBank false (upd g.regs q.d (some v)) with at_ := g.at_ + 1 }] } w L Lw (u2.setCell ⟨b, fs.length * 8 + 1, none⟩ (.int .i64 ((g.at_ : Int) + 1)))) := hid (fun u t hvi => by
    have := value_all (K := K) hwf (h.no t) hf hvi hk hlc hox hw hN huu hNK hK
    rw [hV] at this
    refine this.mono ?_
    rintro e w' ⟨rfl, hq2⟩
    have hv2 := hvi.pq hlc hox hq2
    obtain ⟨L1, Lw1, fc1, c1, g1, g2, g3, g4⟩ := hq2
    refine ⟨rfl, ⟨hv2.q.k3, g1.ox.bx.fb.lt, hv2.cl, g1.ox.bx.pc.lt⟩, fun u1 t1 => ?_⟩
    have hp := (g1.no t1).putQ hfs false hKK q.d (by have := hwf.d; omega) v hv
    have e2 : bo fs.length false = fs.length * 8 + 2 := by unfold bo; simp; omega
    rw [e2] at hp
    refine hp.mono ?_
    rintro e w'' ⟨rfl, hq3⟩
    have hox1 := g3 w.heap.size hvi.xl hox.1 hox.2
    have hv3 := (hv2.no t1).pq (g4 cb hlc).2 hox1 hq3
    obtain ⟨i1, i2⟩ := hq3.inc (fs := fs) (g := g.setBank false (upd g.regs q.d (some v))) rfl
    refine ⟨rfl, hv3.q.k3, i1, fun u2 t2 => ?_⟩
    exact (((i2 u2 t2).trans t1.any (fun _ _ a b => ⟨a, b⟩)).trans g2 g3).trans t.any (fun _ _ a b => ⟨a, b⟩))
  have HKI := hid hk
  clear hox huu hw hK hV hfs hv
  obtain ⟨xs, hxs⟩ : ∃ xs, xsOf g q = xs := ⟨_, rfl⟩
  have hx0 : ∀ i, q.count ≤ i → xs i = 0 := fun i hi => by rw [← hxs]; unfold xsOf; rw [if_neg (by omega)]
  have hfr := hwf.fr

  rw [hxs] at HGET HXN
  rw [hxs] at HVL
  obtain ⟨n, hn⟩ : ∃ n, fs.length = n := ⟨_, rfl⟩
  obtain ⟨cl, hc⟩ : ∃ cl, rf.code.length = cl := ⟨_, rfl⟩
  obtain ⟨a, ha⟩ : ∃ a, g.at_ = a := ⟨_, rfl⟩
  obtain ⟨cnt, hct⟩ : ∃ cnt, q.count = cnt := ⟨_, rfl⟩
  obtain ⟨fn, hfn⟩ : ∃ fn, g.fn = fn := ⟨_, rfl⟩
  obtain ⟨frm, hfm⟩ : ∃ frm, q.frm = frm := ⟨_, rfl⟩
  have s0 := (HSI.out w (Tn.refl _ _)).ov
  have s1 := (HSI.out w (Tn.refl _ _)).pl
  have s2 := (HSI.out w (Tn.refl _ _)).bl
  have s3 := (HSI.out w (Tn.refl _ _)).fl
  have s4 := (HSI.out w (Tn.refl _ _)).cl
  have s5 := (HSI.out w (Tn.refl _ _)).f0
  have s6 := (HSI.out w (Tn.refl _ _)).f1
  have s7 := (HSI.out w (Tn.refl _ _)).cd
  have s8 : ∀ k, ((w.drewN k).alloc (.cells #[.int .u64 0, .int .u64 0, .int .u64 0, .int .u64 0, .int .u64 0] 182)).cell? ⟨cb, g.at_ * 11 + 2, none⟩ = some (.int .u8 (q.count : Int)) := fun k => (HSI.out _ (((Tn.refl No w).drewN k).alloc _)).q.k2
  rw [hn] at s0 s5 s6 hoc hmost
  rw [hfn] at s5 s7
  rw [ha] at s6 s8 hat
  rw [hc] at s7 hcl hcc hat
  rw [hct] at s8 hcnt hx0
  rw [hfm] at hfr
  have a0 : (0 : Int) ≤ (n : Int) := by omega
  have y3' : (n : Int) ≤ 1048575 := by omega
  have y4' : (n : Int) ≤ 4611686018427387904 := Int.le_trans y3' (by decide)
  have b0 : (0 : Int) ≤ (a : Int) := by omega
  have b1' : (a : Int) < (cl : Int) := by omega
  have b2 : (cl : Int) ≤ 4194304 := by omega
  have ci : (cnt : Int) ≤ 5 := by omega
  have a1 : (n : Int) < (n : Int) + 1 := by omega
  have a2 : ((n + 1 : Nat) : Int) - 1 = (n : Int) := by omega
  have w0 := wrap64_small (n : Int) a0 y4'
  have w1' := wrapi_small (n : Int) a0 y4'
  have w2' : IntKind.i64.wrap ((n : Int) + 1 - 1) = n := by rw [Int.add_sub_cancel]; exact w1'

  have HNM := hid (And.intro hn (And.intro hfn (And.intro ha hfm)))
  have HCT := hid hct
  clear hwf hR h hf hg hq hset hsi hxs hn hc ha hct hfn hfm hlc hk
  go_enter Tryz.func48, Tryz.ntmps48
  go_wp2_with fail
  go_quiet (fail)
  go_wp2_with fail
  go_quiet (fail)
  go_wp2_with fail

  clear s0 s5 s6 s7 s8 w0 w1' w2' a1 a2 s1 s2 s3 s4
  go_loopw [6, 7, 8, 38] (fun _ _ _ i wr => ∃ j : Nat, j ≤ cnt ∧ i = .int .u8 (j : Int) ∧ Tn No w wr ∧ XA w.heap.size xs j wr) (fun _ _ _ i _ => cnt - (intOf i).toNat)
  case atStart => exact ⟨0, by omega, rfl, (by repeat (first | exact Tn.refl _ _ | apply Tn.drew | apply Tn.drewN | apply Tn.alloc | (refine Tn.then ?_ (by assumption)) | (refine Tn.thenNo ?_ (by assumption)))), HXN.out _ (by repeat (first | exact Tn.refl _ _ | apply Tn.drew | apply Tn.drewN | apply Tn.alloc | (refine Tn.then ?_ (by assumption)) | (refine Tn.thenNo ?_ (by assumption)))) rfl⟩
  case round =>
    obtain ⟨j, hj, rfl, twr, hxa⟩ := hrel
    by_cases hlt : j < cnt
    · have hsw := HSI.out wr twr
      have t0 := hsw.f0
      have t1 := hsw.bl
      have t2 := hsw.cl
      have t3 := hsw.q.k6 j (by omega)
      rw [HNM.out.1] at t0
      rw [HNM.out.2.1] at t0
      rw [HNM.out.2.2.1, HNM.out.2.2.2] at t3
      have HG := hid (fun u t => HGET.out u j (twr.then t) (by have := HCT.out; omega))
      rw [HNM.out.1, HNM.out.2.2.2] at HG
      have x0 := hxa.at' j (by omega)
      rw [if_neg (by omega)] at x0
      have x1 := hxa.lt
      have x2 := hxa.fz j
      have HST := hid (fun u (t : Tn No wr u) => (hxa.no t).step (j := j) (by omega))
      have HTW := hid twr
      have j1 : (j : Int) < (cnt : Int) := by omega
      have j2 : (j : Int) < 5 := by omega
      have j3 : (0 : Int) ≤ (frm j : Int) := by omega
      have j4 : (frm j : Int) ≤ 4294967295 := by have := hfr j (by omega); omega
      have j5 := wrapu_small (frm j : Int) j3 (by omega)
      clear hsw hxa twr
      go_wp2_with fail
      go_quiet ((go_at_call 78; exact Calls.quiet_of_same (HG.out _ (by repeat (first | exact Tn.refl _ _ | apply Tn.drew | apply Tn.drewN | apply Tn.alloc | (refine Tn.then ?_ (by assumption)) | (refine Tn.thenNo ?_ (by assumption)))))))
      go_wp2_with fail
      go_roundw
      case rel => exact ⟨j + 1, by omega, by go_num, ((HTW.out.drewN _).set _ _ (by intro h; simp at h)), HST.out _ ((Tn.refl No wr).drewN _)⟩
      case measure => simp [intOf]; omega
    · obtain rfl : j = cnt := by omega
      have hsw := HSI.out wr twr
      have hxi : ∀ i, i < 5 → wr.cell? ⟨w.heap.size, i, none⟩ = some (.int .u64 (xs i)) := fun i hi => by
        rw [hxa.at' i hi]
        by_cases e : i < j
        · rw [if_pos e]
        · rw [if_neg e, hx0 i (by omega)]
      have HTW := hid twr
      have t0 := hsw.f0
      have t1 := hsw.f1
      have t2 := hsw.z1
      have t3 := hsw.bl
      have t4 := hsw.cl
      have t5 := hsw.q.k0
      rw [HNM.out.1, HNM.out.2.1] at t0
      rw [HNM.out.1, HNM.out.2.2.1] at t1
      rw [HNM.out.1] at t2
      have xl := hxa.lt

      have HVI : Hid (VI wr cb (g.at_ * 11) w.heap.size q xs) := hid ⟨hsw.cl, hsw.q, xl, hxi⟩
      have HVA := HVL.out wr HTW.out HVI.out
      rw [HNM.out.1, HNM.out.2.2.1] at HVA
      have HVB := hid HVA
      have t8 := hsw.q.k0
      rw [HNM.out.2.2.1] at t8
      have pl := hsw.pl
      obtain ⟨kd, hkk⟩ : ∃ kd, q.kind = kd := ⟨_, rfl⟩
      have hiv := HKI.out
      unfold isVal at hiv
      rw [hkk] at t8 hiv
      obtain ⟨ki, hki⟩ : ∃ ki : Int, (kd : Int) = ki := ⟨_, rfl⟩
      rw [hki] at t8
      have n20 : (ki == 20) = false := by simp; omega
      have n21 : (ki == 21) = false := by simp; omega
      have n22 : (ki == 22) = false := by simp; omega
      have n23 : (ki == 23) = false := by simp; omega
      have n24 : (ki == 24) = false := by simp; omega
      have n25 : (ki == 25) = false := by simp; omega
      have n26 : (ki == 26) = false := by simp; omega
      have n18 : (ki == 18) = false := by simp; omega
      have n32 : (ki == 32) = false := by simp; omega
      obtain ⟨qd, hqd⟩ : ∃ qd, q.d = qd := ⟨_, rfl⟩
      rw [hqd] at hd4 HVB
      have HQD := hid hqd

      have d0 : (0 : Int) ≤ (qd : Int) := by omega
      have d1 : (qd : Int) ≤ 18446744073709551615 := by omega
      have d2 := wrapu_small (qd : Int) d0 d1
      have a9 : (a : Int) + 1 ≤ 4194305 := by omega
      clear hsw hxa twr hxi HGET HXN HSI HVL HVA HVI hx0 hkk hiv hki hqd hd4 t5 d1
      go_wp2_with (go_at_call 83; refine HVB.out.mono ?_; rintro e w2 ⟨rfl, ⟨z1, z2, z3, z4⟩, hput⟩; have HPU := hid hput; clear hput)
      go_region_held3 (fun w' => w'.cell? ⟨cb, a * 11 + 3, none⟩ = some (.int .u32 (qd : Int))) (go_keep) (first
        | (go_at_call 82; refine (HPU.out _ (by repeat (first | exact Tn.refl _ _ | apply Tn.drew | apply Tn.drewN | apply Tn.alloc | (refine Tn.then ?_ (by assumption)) | (refine Tn.thenNo ?_ (by assumption))))).mono ?_; rintro e w3 ⟨rfl, y1, ⟨y5, y6, y7⟩, hfin⟩; have HF := hid hfin; clear hfin))
      go_wp2
      go_ret
      rw [HNM.out.2.2.1, HQD.out]
      exact ⟨rfl, HF.out _ (by repeat (first | exact Tn.refl _ _ | apply Tn.drew | apply Tn.drewN | apply Tn.alloc | (refine Tn.then ?_ (by assumption)) | (refine Tn.thenNo ?_ (by assumption))))⟩
end
end Go.Proofs.YtoidddfpekbliaaGreat
