/-
  word: 'call'.
-/
import Derived.Test.YtoidddfpekbliaaGreatWJ19
namespace Go.Proofs.YtoidddfpekbliaaGreat
set_option linter.unusedSimpArgs false
set_option linter.unusedVariables false
open Go.RowKit
attribute [local go_sem ↓] Go.wp_at_zero Go.wp_at_succ

section
variable {p N fb pw : Nat} {R : List RFun} {strict : Bool} {X : PSt} {b cap : Nat} {vd vh : Value} {fc c : Nat → Value} {w : World} {L : Nat → Option Lb} {Lw : Nat → Option Lab} {fs : List Fr} {g : Fr}

set_option maxHeartbeats 4000000 in
set_option maxRecDepth 100000 in
theorem call22 (hR : RWF R) (h : PR p N fb pw R strict X b cap vd vh fc c w L Lw) (hf : X.fs = fs ++ [g]) (hgat : g.at_ ≤ 4194304) (q : RCode) (hq : q.kind = 22) (fn : Nat) (f : RFun) (hto : q.to_ = (fn : Int)) (hfn : R[fn]? = some f) (cb co : Nat) (hca : CodeAt w cb co q)
    (ga o ac : Nat) (xs : List Int) (hav : AW w L Lw ga o xs) (hac : xs.length ≤ ac) (hlen : xs.length ≤ 8) (hpar : f.params = xs.length) (hN : N < 4611686018426339328) :
    Calls Tryz.prog 80 #[.pointer (some ⟨p, 0, none⟩), .pointer (some ⟨b, fs.length * 8, none⟩), .pointer (some ⟨cb, co, none⟩), .slice (some ⟨ga, o, none⟩) xs.length ac] w fun e w' =>
      (X.fs.length < 1048576 → e = .returned (.bool true) ∧ PL p (N + 8) fb pw R strict { X with fs := fs ++ [g.after strict] ++ [newFr fn xs] } w L Lw w') ∧ (¬ X.fs.length < 1048576 → e = .returned (.bool false) ∧ Tn No w w') := by
  have hpb : ¬ b = p := by rintro rfl; have := h.ox.bx.lp; rw [h.ox.bx.lb] at this; cases this
  have hpb2 : ¬ p = b := fun e => hpb e.symm
  obtain ⟨hla, hmm⟩ := h.last hf
  obtain ⟨capo, ho1, ho2⟩ := hla.ov
  obtain ⟨cap0, e0, hc0⟩ := h.pg.sl
  have k0 := h.ox.bx.pc.cell 0 (by omega)
  rw [e0] at k0
  have k10 := h.ox.bx.pc.cell 10 (by omega)
  rw [h.c10] at k10
  obtain ⟨p1, p2, -⟩ := h.pg.fn fn f hfn
  rw [Nat.mul_comm, hpar] at p2
  have hfl := (List.getElem?_eq_some_iff.1 hfn).1
  have y0 := hca.k0
  have y4 := hca.k4
  rw [hq] at y0
  rw [hto] at y4
  have plt := h.ox.bx.pc.lt
  have kat := hla.k1
  have fat := hla.f1
  have blt := hla.lt
  have hlen2 := hR.len
  have hXl : X.fs.length = fs.length + 1 := by rw [hf]; simp
  have HW : Hid (∀ w0, Tn No w w0 → PL p (N + 8) fb pw R strict X w L Lw w0) := hid (fun w0 t => (h.mono (by omega)).plNo t)
  obtain ⟨n, hn⟩ : ∃ n, fs.length = n := ⟨_, rfl⟩
  obtain ⟨m, hm⟩ : ∃ m, R.length = m := ⟨_, rfl⟩
  obtain ⟨at_, hat⟩ : ∃ at_, g.at_ = at_ := ⟨_, rfl⟩
  rw [hm] at k0 hc0 hfl hlen2
  rw [hn] at ho1 ho2 hmm kat fat hXl ⊢
  rw [hat] at kat hgat
  rw [hXl]
  have a0 : (0 : Int) ≤ (fn : Int) := by omega
  have a1 : (fn : Int) < (m : Int) := by omega
  have a2 : (m : Int) ≤ 4194304 := by omega
  have a3 : (at_ : Int) ≤ 4194304 := by omega
  have a4 : (n : Int) ≤ 1048575 := by omega
  have a5 : (xs.length : Int) ≤ 8 := by omega
  by_cases hroom : n + 1 < 1048576
  · have HR2 := hid (call_push h hf (by omega) fn ga o ac xs hav hac (by omega) hN)
    rw [hn, hat] at HR2
    simp only [Nat.mul_comm 3 fn] at HR2
    have b1 : decide ((1048576 : Int) ≤ (n : Int) + 1) = false := decide_eq_false (by omega)
    have HAF : Hid (g.after false = ⟨g.fn, at_ + 1, g.regs, g.slots⟩) := hid (by unfold Fr.after; rw [hat]; rfl)
    clear h hR hfn hca hav hpar hm hn hat p1 hXl HW
    cases strict
    · go_enter Tryz.func80, Tryz.ntmps80
      go_wp2_with fail
      go_quiet (fail)
      obtain ⟨z1, z2, z3⟩ := HR2.out
      have HS := hid (z1 _ ((Tn.refl No w).drewN nq))
      have HPU := hid (z3 _ _ HS.out)
      clear z1 z2 z3 HR2
      go_wp2_with (go_at_call 45; refine HPU.out.mono ?_; rintro e w2 ⟨rfl, hop⟩; have HE := hid hop; clear hop)
      go_ret
      exact ⟨fun _ => ⟨rfl, by rw [HAF.out]; exact HE.out.mono (show N + xs.length ≤ N + 8 by omega)⟩, fun q => absurd hroom q⟩
    · go_enter Tryz.func80, Tryz.ntmps80
      go_wp2_with fail
      go_quiet (fail)
      obtain ⟨z1, z2, z3⟩ := HR2.out
      have HS := hid (z1 _ ((Tn.refl No w).drewN nq))
      have HCL := hid (z2 _ HS.out)
      have HPU := hid (z3 (g.after true))
      clear z1 z2 z3 HR2
      go_wp2_with fail
      obtain ⟨w5, hw5⟩ : ∃ w5, w5 = (w.drewN nq).setCell ⟨b, n * 8 + 1, none⟩ (.int .i64 ((at_ : Int) + 1)) := ⟨_, rfl⟩
      rw [← hw5] at HCL ⊢
      clear hw5
      go_region_held3 (fun w' => True) (trivial) (first
        | (go_at_call 121; refine (HCL.out _ (by repeat (first | exact Tn.refl _ _ | apply Tn.drew | apply Tn.drewN | apply Tn.alloc | (refine Tn.then ?_ (by assumption)) | (refine Tn.thenNo ?_ (by assumption))))).mono ?_; rintro e w6 ⟨rfl, hpk⟩; have HP6 := hid hpk; clear hpk))
      go_wp2_with (go_at_call 45; refine (HPU.out w6 HP6.out).mono ?_; rintro e w2 ⟨rfl, hop⟩; have HE := hid hop; clear hop)
      go_ret
      exact ⟨fun _ => ⟨rfl, HE.out.mono (show N + xs.length ≤ N + 8 by omega)⟩, fun q => absurd hroom q⟩
  · have b1 : decide ((1048576 : Int) ≤ (n : Int) + 1) = true := decide_eq_true (by omega)
    clear h hR hfn hca hav hpar hm hn hat p1 hXl HW
    go_enter Tryz.func80, Tryz.ntmps80
    go_wp2_with fail
    go_quiet (fail)
    go_wp2
    go_ret
    exact ⟨fun q => absurd q hroom, fun _ => ⟨rfl, (Tn.refl No w).drewN nq⟩⟩
end
end Go.Proofs.YtoidddfpekbliaaGreat
