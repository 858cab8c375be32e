/-
  word: 'call': tails, applied addresses. Made by gen_wcall.py.
-/
import Derived.Test.YtoidddfpekbliaaGreatWCall3
namespace Go.Proofs.YtoidddfpekbliaaGreat
set_option linter.unusedSimpArgs false
set_option linter.unusedVariables false
open Go.RowKit
attribute [local go_sem ↓] Go.wp_at_zero Go.wp_at_succ

theorem funAt_lt {R : List RFun} {x : Int} {n : Nat} (h : funAt R x = some n) : n < R.length := by
  unfold funAt at h
  split at h
  · rename_i hc
    cases h
    have := wrap_nonneg (x - 4194304)
    omega
  · cases h

/-- what comes of an applied address -/
def ApP (p N fb pw : Nat) (R : List RFun) (strict : Bool) (x : Int) (n : Nat) (room : Prop) (Y : Nat → PSt) (w : World) (L : Nat → Option Lb) (Lw : Nat → Option Lab) (e : Ending) (w' : World) : Prop :=
  (∃ fn f, funAt R x = some fn ∧ R[fn]? = some f ∧ f.params = n ∧ room ∧ e = .returned (.bool true) ∧ PL p (N + 8) fb pw R strict (Y fn) w L Lw w') ∨
  ((¬ ∃ fn f, funAt R x = some fn ∧ R[fn]? = some f ∧ f.params = n ∧ room) ∧ e = .returned (.bool false) ∧ Tn No w w')

section
variable {p N fb pw : Nat} {R : List RFun} {strict : Bool} {X : PSt} {b cap : Nat} {vd vh : Value} {fc c : Nat → Value} {w : World} {L : Nat → Option Lb} {Lw : Nat → Option Lab} {fs : List Fr} {g : Fr}

set_option maxHeartbeats 4000000 in
set_option maxRecDepth 100000 in
theorem call24 (hR : RWF R) (h : PR p N fb pw R strict X b cap vd vh fc c w L Lw) (hf : X.fs = fs ++ [g]) (hgat : g.at_ ≤ 4194304) (q : RCode) (hq : q.kind = 24) (fn : Nat) (f : RFun) (hto : q.to_ = (fn : Int)) (hfn : R[fn]? = some f) (cb co : Nat) (hca : CodeAt w cb co q)
    (ga o ac : Nat) (xs : List Int) (hav : AW w L Lw ga o xs) (hac : xs.length ≤ ac) (hlen : xs.length ≤ 8) (hpar : f.params = xs.length) (hN : N < 4611686018426339328) :
    Calls Tryz.prog 80 #[.pointer (some ⟨p, 0, none⟩), .pointer (some ⟨b, fs.length * 8, none⟩), .pointer (some ⟨cb, co, none⟩), .slice (some ⟨ga, o, none⟩) xs.length ac] w fun e w' =>
      e = .returned (.bool true) ∧ PL p (N + 8) fb pw R strict { X with fs := fs ++ [newFr fn xs] } w L Lw w' := by
  have hpb : ¬ b = p := by rintro rfl; have := h.ox.bx.lp; rw [h.ox.bx.lb] at this; cases this
  have hpb2 : ¬ p = b := fun e => hpb e.symm
  obtain ⟨hla, hmm⟩ := h.last hf
  obtain ⟨capo, ho1, ho2⟩ := hla.ov
  obtain ⟨cap0, e0, hc0⟩ := h.pg.sl
  have k0 := h.ox.bx.pc.cell 0 (by omega)
  rw [e0] at k0
  have k10 := h.ox.bx.pc.cell 10 (by omega)
  rw [h.c10] at k10
  have y0 := hca.k0
  have y4 := hca.k4
  rw [hq] at y0
  rw [hto] at y4
  have plt := h.ox.bx.pc.lt
  have kat := hla.k1
  have fat := hla.f1
  have blt := hla.lt
  have hlen2 := hR.len
  have hXl : X.fs.length = fs.length + 1 := by rw [hf]; simp
  obtain ⟨p1, p2, -⟩ := h.pg.fn fn f hfn
  rw [Nat.mul_comm, hpar] at p2
  have hfl := (List.getElem?_eq_some_iff.1 hfn).1
  obtain ⟨n, hn⟩ : ∃ n, fs.length = n := ⟨_, rfl⟩
  obtain ⟨m, hm⟩ : ∃ m, R.length = m := ⟨_, rfl⟩
  obtain ⟨at_, hat⟩ : ∃ at_, g.at_ = at_ := ⟨_, rfl⟩
  rw [hn] at ho1 ho2 hmm kat fat hXl ⊢
  rw [hat] at kat hgat
  have a3 : (at_ : Int) ≤ 4194304 := by omega
  have a4 : (n : Int) ≤ 1048575 := by omega
  have a5 : (xs.length : Int) ≤ 8 := by omega
  rw [hm] at k0 hc0 hfl hlen2
  have a0 : (0 : Int) ≤ (fn : Int) := by omega
  have a1 : (fn : Int) < (m : Int) := by omega
  have a2 : (m : Int) ≤ 4194304 := by omega
  have HR2 := hid (call_tail h hf fn ga o ac xs hav hac (by omega) hN)
  rw [hn] at HR2
  simp only [Nat.mul_comm 3 fn] at HR2
  clear h hR hfn hca hav hpar hm hn hat p1 hXl
  go_enter Tryz.func80, Tryz.ntmps80
  go_wp2_with fail
  go_quiet (fail)
  obtain ⟨z1, z2⟩ := HR2.out
  have HCL := hid (z1 _ ((Tn.refl No w).drewN nq))
  have HBE := hid z2
  clear z1 z2 HR2
  go_wp2_with (first
    | (go_at_call 89; refine HCL.out.mono ?_; rintro e w6 ⟨rfl, hpk⟩; have HP6 := hid hpk; clear hpk)
    | (go_at_call 74; refine (HBE.out w6 HP6.out).mono ?_; rintro e w2 ⟨rfl, hop⟩; have HE := hid hop; clear hop))
  go_ret
  exact ⟨rfl, HE.out.mono (show N + xs.length ≤ N + 8 by omega)⟩

set_option maxHeartbeats 4000000 in
set_option maxRecDepth 100000 in
theorem call23 (hR : RWF R) (hne : 1 ≤ R.length) (h : PR p N fb pw R strict X b cap vd vh fc c w L Lw) (hf : X.fs = fs ++ [g]) (hgat : g.at_ ≤ 4194304) (q : RCode) (hq : q.kind = 23) (hto : q.to_ = 0) (cb co : Nat) (hca : CodeAt w cb co q)
    (ga o : Nat) (x : Int) (xs : List Int) (hav : AW w L Lw ga o (x :: xs)) (hac : xs.length ≤ 4) (hN : N < 4611686018426339328) :
    Calls Tryz.prog 80 #[.pointer (some ⟨p, 0, none⟩), .pointer (some ⟨b, fs.length * 8, none⟩), .pointer (some ⟨cb, co, none⟩), .slice (some ⟨ga, o, none⟩) (xs.length + 1) 5] w
      (ApP p N fb pw R strict x xs.length (X.fs.length < 1048576) (fun fn => { X with fs := fs ++ [g.after strict] ++ [newFr fn xs] }) w L Lw) := by
  have hpb : ¬ b = p := by rintro rfl; have := h.ox.bx.lp; rw [h.ox.bx.lb] at this; cases this
  have hpb2 : ¬ p = b := fun e => hpb e.symm
  obtain ⟨hla, hmm⟩ := h.last hf
  obtain ⟨capo, ho1, ho2⟩ := hla.ov
  obtain ⟨cap0, e0, hc0⟩ := h.pg.sl
  have k0 := h.ox.bx.pc.cell 0 (by omega)
  rw [e0] at k0
  have k10 := h.ox.bx.pc.cell 10 (by omega)
  rw [h.c10] at k10
  have y0 := hca.k0
  have y4 := hca.k4
  rw [hq] at y0
  rw [hto] at y4
  have plt := h.ox.bx.pc.lt
  have kat := hla.k1
  have fat := hla.f1
  have blt := hla.lt
  have hlen2 := hR.len
  have hXl : X.fs.length = fs.length + 1 := by rw [hf]; simp
  have HFU := hid (function_raw hR h x)
  have HFD : Hid (∀ w0, Tn No w w0 → Calls Tryz.prog 120 #[.pointer (some ⟨p, 0, none⟩), .int .u64 x] w0 fun e w' => e = .returned (fpv fb (funAt R x)) ∧ w0 = w') := hid (fun w0 t => (function_raw hR (h.no t) x).mono (fun e w' z => ⟨z.1, z.2.symm⟩))
  have hx0 := hav.at' 0 x rfl
  rw [Nat.add_zero] at hx0
  have hga := hav.lt
  have hac2 : (xs.length : Int) + 1 ≤ 5 := by omega
  have hR1 : 1 ≤ R.length := hne
  obtain ⟨n, hn⟩ : ∃ n, fs.length = n := ⟨_, rfl⟩
  obtain ⟨m, hm⟩ : ∃ m, R.length = m := ⟨_, rfl⟩
  obtain ⟨at_, hat⟩ : ∃ at_, g.at_ = at_ := ⟨_, rfl⟩
  rw [hn] at ho1 ho2 hmm kat fat hXl ⊢
  rw [hat] at kat hgat
  rw [hXl]
  have a3 : (at_ : Int) ≤ 4194304 := by omega
  have a4 : (n : Int) ≤ 1048575 := by omega
  have a5 : (xs.length : Int) ≤ 8 := by omega
  have s1 : (1 : Int) ≤ (xs.length : Int) + 1 := by omega
  have s2 : ((xs.length + 1 : Nat) : Int) - 1 = xs.length := by omega
  rw [hm] at k0 hc0 hlen2 hR1
  have a1 : (0 : Int) < (m : Int) := by omega
  have a2 : (m : Int) ≤ 4194304 := by omega
  cases hfa : funAt R x with
  | none =>
    have HNO : Hid (¬ ∃ fn f, funAt R x = some fn ∧ R[fn]? = some f ∧ f.params = xs.length ∧ n + 1 < 1048576) := hid (by rintro ⟨_, _, e, _⟩; rw [hfa] at e; cases e)
    rw [hfa] at HFD
    simp only [fpv] at HFD
    clear h hR hca hav hm hn hat hXl HFU hac hfa
    go_enter Tryz.func80, Tryz.ntmps80
    go_wp2_with fail
    go_quiet (fail)
    have HF2 := hid (HFD.out _ ((Tn.refl No w).drewN nq))
    clear HFD
    go_wp2_with (go_at_call 120; refine HF2.out.mono ?_; rintro e w6 ⟨rfl, rfl⟩)
    go_ret
    exact .inr ⟨HNO.out, rfl, (Tn.refl No w).drewN nq⟩
  | some fn =>
    have hfl := funAt_lt hfa
    obtain ⟨f, hfn⟩ : ∃ f, R[fn]? = some f := ⟨_, List.getElem?_eq_getElem hfl⟩
    rw [hfa] at HFD
    simp only [fpv] at HFD
    obtain ⟨p1, p2, -⟩ := h.pg.fn fn f hfn
    have hpl := (hR.fn fn f hfn).1
    have hpl2 : (f.params : Int) ≤ 4 := by omega
    by_cases hpar : f.params = xs.length
    · have HFA := hid hfa
      have HFN := hid hfn
      have HPA := hid hpar
      rw [hpar] at p2
      by_cases hroom : n + 1 < 1048576
      · have HR2 := hid (call_push h hf (by omega) fn ga (o + 1) 4 xs hav.tail hac (by omega) hN)
        rw [hn, hat] at HR2
        have b1 : decide ((1048576 : Int) ≤ (n : Int) + 1) = false := decide_eq_false (by omega)
        have HAF : Hid (g.after false = ⟨g.fn, at_ + 1, g.regs, g.slots⟩) := hid (by unfold Fr.after; rw [hat]; rfl)
        clear h hR hca hav hm hn hat hXl HFU p1 hfa hfn hpar
        cases strict
        · go_enter Tryz.func80, Tryz.ntmps80
          go_wp2_with fail
          go_quiet (fail)
          have HF2 := hid (HFD.out _ ((Tn.refl No w).drewN nq))
          obtain ⟨z1, z2, z3⟩ := HR2.out
          have HS := hid (z1 _ ((Tn.refl No w).drewN nq))
          have HPU := hid (z3 _ _ HS.out)
          clear HFD z1 z2 z3 HR2
          go_wp2_with (first
            | (go_at_call 120; refine HF2.out.mono ?_; rintro e w5 ⟨rfl, rfl⟩)
            | (go_at_call 45; refine HPU.out.mono ?_; rintro e w2 ⟨rfl, hop⟩; have HE := hid hop; clear hop))
          go_ret
          exact .inl ⟨fn, f, HFA.out, HFN.out, HPA.out, hroom, rfl, by rw [HAF.out]; exact HE.out.mono (show N + xs.length ≤ N + 8 by omega)⟩
        · go_enter Tryz.func80, Tryz.ntmps80
          go_wp2_with fail
          go_quiet (fail)
          have HF2 := hid (HFD.out _ ((Tn.refl No w).drewN nq))
          obtain ⟨z1, z2, z3⟩ := HR2.out
          have HS := hid (z1 _ ((Tn.refl No w).drewN nq))
          have HCL := hid (z2 _ HS.out)
          have HPU := hid (z3 (g.after true))
          clear HFD z1 z2 z3 HR2
          go_wp2_with (go_at_call 120; refine HF2.out.mono ?_; rintro e w5 ⟨rfl, rfl⟩)
          obtain ⟨w5, hw5⟩ : ∃ w5, w5 = (w.drewN nq).setCell ⟨b, n * 8 + 1, none⟩ (.int .i64 ((at_ : Int) + 1)) := ⟨_, rfl⟩
          rw [← hw5] at HCL ⊢
          clear hw5
          go_region_held3 (fun w' => True) (trivial) (first
            | (go_at_call 121; refine (HCL.out _ (by repeat (first | exact Tn.refl _ _ | apply Tn.drew | apply Tn.drewN | apply Tn.alloc | (refine Tn.then ?_ (by assumption)) | (refine Tn.thenNo ?_ (by assumption))))).mono ?_; rintro e w6 ⟨rfl, hpk⟩; have HP6 := hid hpk; clear hpk))
          go_wp2_with (go_at_call 45; refine (HPU.out w6 HP6.out).mono ?_; rintro e w2 ⟨rfl, hop⟩; have HE := hid hop; clear hop)
          go_ret
          exact .inl ⟨fn, f, HFA.out, HFN.out, HPA.out, hroom, rfl, HE.out.mono (show N + xs.length ≤ N + 8 by omega)⟩
      · have b1 : decide ((1048576 : Int) ≤ (n : Int) + 1) = true := decide_eq_true (by omega)
        clear h hR hca hav hm hn hat hXl HFU p1 hfa hfn hpar
        go_enter Tryz.func80, Tryz.ntmps80
        go_wp2_with fail
        go_quiet (fail)
        have HF2 := hid (HFD.out _ ((Tn.refl No w).drewN nq))
        clear HFD
        go_wp2_with (go_at_call 120; refine HF2.out.mono ?_; rintro e w5 ⟨rfl, rfl⟩)
        go_ret
        exact .inr ⟨by rintro ⟨_, _, _, _, _, q⟩; exact hroom q, rfl, (Tn.refl No w).drewN nq⟩
    · have hpar2 : ¬ ((f.params : Int) = (xs.length : Int)) := by omega
      have hpar3 : decide ((f.params : Int) = (xs.length : Int)) = false := decide_eq_false hpar2
      have HNO : Hid (¬ ∃ fn f, funAt R x = some fn ∧ R[fn]? = some f ∧ f.params = xs.length ∧ n + 1 < 1048576) := hid (by
        rintro ⟨fn', f', e1, e2, e3, _⟩
        rw [hfa] at e1; cases e1
        rw [hfn] at e2; cases e2
        exact hpar e3)
      clear h hR hca hav hm hn hat hXl HFU hac hfn p1 hfa hpar
      go_enter Tryz.func80, Tryz.ntmps80
      go_wp2_with fail
      go_quiet (fail)
      have HF2 := hid (HFD.out _ ((Tn.refl No w).drewN nq))
      clear HFD
      go_wp2_with (go_at_call 120; refine HF2.out.mono ?_; rintro e w6 ⟨rfl, rfl⟩)
      go_ret
      exact .inr ⟨HNO.out, rfl, (Tn.refl No w).drewN nq⟩

set_option maxHeartbeats 4000000 in
set_option maxRecDepth 100000 in
theorem call25 (hR : RWF R) (hne : 1 ≤ R.length) (h : PR p N fb pw R strict X b cap vd vh fc c w L Lw) (hf : X.fs = fs ++ [g]) (hgat : g.at_ ≤ 4194304) (q : RCode) (hq : q.kind = 25) (hto : q.to_ = 0) (cb co : Nat) (hca : CodeAt w cb co q)
    (ga o : Nat) (x : Int) (xs : List Int) (hav : AW w L Lw ga o (x :: xs)) (hac : xs.length ≤ 4) (hN : N < 4611686018426339328) :
    Calls Tryz.prog 80 #[.pointer (some ⟨p, 0, none⟩), .pointer (some ⟨b, fs.length * 8, none⟩), .pointer (some ⟨cb, co, none⟩), .slice (some ⟨ga, o, none⟩) (xs.length + 1) 5] w
      (ApP p N fb pw R strict x xs.length (True) (fun fn => { X with fs := fs ++ [newFr fn xs] }) w L Lw) := by
  have hpb : ¬ b = p := by rintro rfl; have := h.ox.bx.lp; rw [h.ox.bx.lb] at this; cases this
  have hpb2 : ¬ p = b := fun e => hpb e.symm
  obtain ⟨hla, hmm⟩ := h.last hf
  obtain ⟨capo, ho1, ho2⟩ := hla.ov
  obtain ⟨cap0, e0, hc0⟩ := h.pg.sl
  have k0 := h.ox.bx.pc.cell 0 (by omega)
  rw [e0] at k0
  have k10 := h.ox.bx.pc.cell 10 (by omega)
  rw [h.c10] at k10
  have y0 := hca.k0
  have y4 := hca.k4
  rw [hq] at y0
  rw [hto] at y4
  have plt := h.ox.bx.pc.lt
  have kat := hla.k1
  have fat := hla.f1
  have blt := hla.lt
  have hlen2 := hR.len
  have hXl : X.fs.length = fs.length + 1 := by rw [hf]; simp
  have HFU := hid (function_raw hR h x)
  have HFD : Hid (∀ w0, Tn No w w0 → Calls Tryz.prog 120 #[.pointer (some ⟨p, 0, none⟩), .int .u64 x] w0 fun e w' => e = .returned (fpv fb (funAt R x)) ∧ w0 = w') := hid (fun w0 t => (function_raw hR (h.no t) x).mono (fun e w' z => ⟨z.1, z.2.symm⟩))
  have hx0 := hav.at' 0 x rfl
  rw [Nat.add_zero] at hx0
  have hga := hav.lt
  have hac2 : (xs.length : Int) + 1 ≤ 5 := by omega
  have hR1 : 1 ≤ R.length := hne
  obtain ⟨n, hn⟩ : ∃ n, fs.length = n := ⟨_, rfl⟩
  obtain ⟨m, hm⟩ : ∃ m, R.length = m := ⟨_, rfl⟩
  obtain ⟨at_, hat⟩ : ∃ at_, g.at_ = at_ := ⟨_, rfl⟩
  rw [hn] at ho1 ho2 hmm kat fat hXl ⊢
  rw [hat] at kat hgat
  have a3 : (at_ : Int) ≤ 4194304 := by omega
  have a4 : (n : Int) ≤ 1048575 := by omega
  have a5 : (xs.length : Int) ≤ 8 := by omega
  have s1 : (1 : Int) ≤ (xs.length : Int) + 1 := by omega
  have s2 : ((xs.length + 1 : Nat) : Int) - 1 = xs.length := by omega
  rw [hm] at k0 hc0 hlen2 hR1
  have a1 : (0 : Int) < (m : Int) := by omega
  have a2 : (m : Int) ≤ 4194304 := by omega
  cases hfa : funAt R x with
  | none =>
    have HNO : Hid (¬ ∃ fn f, funAt R x = some fn ∧ R[fn]? = some f ∧ f.params = xs.length ∧ True) := hid (by rintro ⟨_, _, e, _⟩; rw [hfa] at e; cases e)
    rw [hfa] at HFD
    simp only [fpv] at HFD
    clear h hR hca hav hm hn hat hXl HFU hac hfa
    go_enter Tryz.func80, Tryz.ntmps80
    go_wp2_with fail
    go_quiet (fail)
    have HF2 := hid (HFD.out _ ((Tn.refl No w).drewN nq))
    clear HFD
    go_wp2_with (go_at_call 120; refine HF2.out.mono ?_; rintro e w6 ⟨rfl, rfl⟩)
    go_ret
    exact .inr ⟨HNO.out, rfl, (Tn.refl No w).drewN nq⟩
  | some fn =>
    have hfl := funAt_lt hfa
    obtain ⟨f, hfn⟩ : ∃ f, R[fn]? = some f := ⟨_, List.getElem?_eq_getElem hfl⟩
    rw [hfa] at HFD
    simp only [fpv] at HFD
    obtain ⟨p1, p2, -⟩ := h.pg.fn fn f hfn
    have hpl := (hR.fn fn f hfn).1
    have hpl2 : (f.params : Int) ≤ 4 := by omega
    by_cases hpar : f.params = xs.length
    · have HFA := hid hfa
      have HFN := hid hfn
      have HPA := hid hpar
      rw [hpar] at p2
      have HR2 := hid (call_tail h hf fn ga (o + 1) 4 xs hav.tail hac (by omega) hN)
      rw [hn] at HR2
      clear h hR hca hav hm hn hat hXl HFU p1 hfa hfn hpar
      go_enter Tryz.func80, Tryz.ntmps80
      go_wp2_with fail
      go_quiet (fail)
      have HF2 := hid (HFD.out _ ((Tn.refl No w).drewN nq))
      obtain ⟨z1, z2⟩ := HR2.out
      have HCL := hid (z1 _ ((Tn.refl No w).drewN nq))
      have HBE := hid z2
      clear HFD z1 z2 HR2
      go_wp2_with (first
        | (go_at_call 120; refine HF2.out.mono ?_; rintro e w5 ⟨rfl, rfl⟩)
        | (go_at_call 89; refine HCL.out.mono ?_; rintro e w6 ⟨rfl, hpk⟩; have HP6 := hid hpk; clear hpk)
        | (go_at_call 74; refine (HBE.out w6 HP6.out).mono ?_; rintro e w2 ⟨rfl, hop⟩; have HE := hid hop; clear hop))
      go_ret
      exact .inl ⟨fn, f, HFA.out, HFN.out, HPA.out, trivial, rfl, HE.out.mono (show N + xs.length ≤ N + 8 by omega)⟩
    · have hpar2 : ¬ ((f.params : Int) = (xs.length : Int)) := by omega
      have hpar3 : decide ((f.params : Int) = (xs.length : Int)) = false := decide_eq_false hpar2
      have HNO : Hid (¬ ∃ fn f, funAt R x = some fn ∧ R[fn]? = some f ∧ f.params = xs.length ∧ True) := hid (by
        rintro ⟨fn', f', e1, e2, e3, _⟩
        rw [hfa] at e1; cases e1
        rw [hfn] at e2; cases e2
        exact hpar e3)
      clear h hR hca hav hm hn hat hXl HFU hac hfn p1 hfa hpar
      go_enter Tryz.func80, Tryz.ntmps80
      go_wp2_with fail
      go_quiet (fail)
      have HF2 := hid (HFD.out _ ((Tn.refl No w).drewN nq))
      clear HFD
      go_wp2_with (go_at_call 120; refine HF2.out.mono ?_; rintro e w6 ⟨rfl, rfl⟩)
      go_ret
      exact .inr ⟨HNO.out, rfl, (Tn.refl No w).drewN nq⟩
end
end Go.Proofs.YtoidddfpekbliaaGreat
