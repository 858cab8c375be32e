/-
  word: a program made ready.
-/
import Derived.Test.YtoidddfpekbliaaGreatWReady7
import Derived.BigRegion
import Derived.Test.YtoidddfpekbliaaGreatWJ30
namespace Go.Proofs.YtoidddfpekbliaaGreat
set_option linter.unusedSimpArgs false
set_option linter.unusedVariables false
open Go.RowKit
attribute [local go_sem ↓] Go.wp_at_zero Go.wp_at_succ

theorem fun_info : (Tryz.prog.info? 121).map (fun i => (i.zero, i.size, i.bytes)) = some (some (.agg #[.string ⟨#[]⟩, .int .i64 0, .slice none 0 0]), 3, 48) := by kernel_rfl

theorem make_funs (n : Nat) (hn : n ≤ 4194304) : ∃ M : Array Value, M.size = n * 3 ∧ ∀ W : World, (Instr.makeSlice 101 (.int .i64 (n : Int)) (.int .i64 (n : Int))).run Tryz.prog W = .ok (.slice (some ⟨W.heap.size, 0, none⟩) n n) (W.alloc (.cells M 121)) := by
  obtain ⟨i, hi, z0, z1, z2⟩ := info_parts fun_info
  refine ⟨madeCells (Value.agg #[.string ⟨#[]⟩, .int .i64 0, .slice none 0 0]).cells (((n : Nat) : Int).toNat * i.size), by rw [size_madeCells, z1]; simp, fun W => ?_⟩
  have h := run_make (P := Tryz.prog) W 101 121 i _ Tryz.underlying101 hi z0 .i64 .i64 (n : Int) (n : Int) (by omega) (by omega) (by rw [z2]; omega) (by omega)
  simpa using h

/-- a function made ready lies at place i -/
def FRd (w : World) (fb : Nat) (B : Nat) (i : Nat) (f : Wf) (wr : World) (c : Nat → Value) : Prop :=
  c (3 * i) = .string f.name ∧ c (3 * i + 1) = .int .i64 f.params ∧ ∃ cb cap, c (3 * i + 2) = .slice (some ⟨cb, 0, none⟩) (readyC f.code).length cap ∧ LR 11 eQ wr (.slice (some ⟨cb, 0, none⟩) (readyC f.code).length cap) (readyC f.code) ∧ B ≤ cb ∧ cb ≠ fb
/-- what the loop keeps -/
structure RD (w : World) (fb n : Nat) (fs : List Wf) (q : Nat) (wr : World) : Prop where
  cb : ∃ c, CB wr fb (n * 3) c ∧ ∀ i (hi : i < fs.length), i < q → FRd w fb w.heap.size i fs[i] wr c
  tn : Tn No w wr

theorem own_eq {cb n cap g : Nat} (h : (Value.slice (some ⟨cb, 0, none⟩) n cap).ownBlock = some g) : g = cb := by simpa [Value.ownBlock] using h.symm

theorem RD.no {w : World} {fb n : Nat} {fs : List Wf} {q : Nat} {wr w' : World} (h : RD w fb n fs q wr) (t : Tn No wr w') : RD w fb n fs q w' := by
  obtain ⟨c, h1, h2⟩ := h.cb
  refine ⟨⟨c, h1.kept (t.block _ h1.lt (fun e => e)), fun i hi hq => ?_⟩, h.tn.then t⟩
  obtain ⟨e1, e2, cb, cap, e3, e4, e5, e6⟩ := h2 i hi hq
  exact ⟨e1, e2, cb, cap, e3, e4.no t, e5, e6⟩

/-- one more -/
theorem RD.set {w : World} {fb n : Nat} {fs : List Wf} {q : Nat} {wr : World} (h : RD w fb n fs q wr) (hn : fs.length = n) (hq : q < fs.length) (hfb : w.heap.size ≤ fb) (cb cap : Nat) (hlr : LR 11 eQ wr (.slice (some ⟨cb, 0, none⟩) (readyC fs[q].code).length cap) (readyC fs[q].code)) (hcb : w.heap.size ≤ cb) (hne : cb ≠ fb) :
    RD w fb n fs (q + 1) (((wr.setCell ⟨fb, 3 * q, none⟩ (.string fs[q].name)).setCell ⟨fb, 3 * q + 1, none⟩ (.int .i64 fs[q].params)).setCell ⟨fb, 3 * q + 2, none⟩ (.slice (some ⟨cb, 0, none⟩) (readyC fs[q].code).length cap)) := by
  obtain ⟨c, h1, h2⟩ := h.cb
  have hs := ((h1.set (3 * q) (by omega) (.string fs[q].name)).set (3 * q + 1) (by omega) (.int .i64 fs[q].params)).set (3 * q + 2) (by omega) (.slice (some ⟨cb, 0, none⟩) (readyC fs[q].code).length cap)
  have hk : ∀ g, g ≠ fb → (((wr.setCell ⟨fb, 3 * q, none⟩ (.string fs[q].name)).setCell ⟨fb, 3 * q + 1, none⟩ (.int .i64 fs[q].params)).setCell ⟨fb, 3 * q + 2, none⟩ (.slice (some ⟨cb, 0, none⟩) (readyC fs[q].code).length cap)).heap[g]? = wr.heap[g]? := fun g hg => by
    rw [Below.heap_setCell _ _ _ _ hg, Below.heap_setCell _ _ _ _ hg, Below.heap_setCell _ _ _ _ hg]
  refine ⟨⟨_, hs, fun i hi hiq => ?_⟩, ((h.tn.set _ _ (fun hlt => ?_)).set _ _ (fun hlt => ?_)).set _ _ (fun hlt => ?_)⟩
  · by_cases e : i = q
    · subst e
      refine ⟨?_, ?_, cb, cap, ?_, hlr.kept (fun g hg => hk g (by rw [own_eq hg]; exact hne)), hcb, hne⟩
      · rw [upd_other _ _ (by omega), upd_other _ _ (by omega), upd_same]
      · rw [upd_other _ _ (by omega), upd_same]
      · rw [upd_same]
    · obtain ⟨e1, e2, cb', cap', e3, e4, e5, e6⟩ := h2 i hi (by omega)
      refine ⟨?_, ?_, cb', cap', ?_, e4.kept (fun g hg => hk g (by rw [own_eq hg]; exact e6)), e5, e6⟩
      · rw [upd_other _ _ (by omega), upd_other _ _ (by omega), upd_other _ _ (by omega)]; exact e1
      · rw [upd_other _ _ (by omega), upd_other _ _ (by omega), upd_other _ _ (by omega)]; exact e2
      · rw [upd_other _ _ (by omega), upd_other _ _ (by omega), upd_other _ _ (by omega)]; exact e3
  all_goals (simp only at hlt; omega)

theorem readyC_pos {p : Wp} {f : Wf} (hf : FOkP p f) : 0 < (readyC f.code).length := by
  obtain ⟨j, z, hcode, hz⟩ := hf.last
  unfold readyC
  rw [List.length_map, hcode, nl_append, nl_one hz]; simp

set_option maxHeartbeats 8000000 in
set_option maxRecDepth 100000 in
theorem ready_raw (p : Wp) (w : World) (hp : PgA w p) (hk : POkP p) :
    Calls Tryz.prog 42 #[p.val] w fun e w' => ∃ fb, e = .returned (.slice (some ⟨fb, 0, none⟩) p.funs.length p.funs.length) ∧ RD w fb p.funs.length p.funs p.funs.length w' ∧ w.heap.size ≤ fb := by
  have hfew := hk.few
  have HRC : Hid (∀ f ∈ p.funs, ∀ u, Tn No w u → Calls Tryz.prog 72 #[f.cv] u fun e w' => ∃ cb cap, e = .returned (.slice (some ⟨cb, 0, none⟩) (readyC f.code).length cap) ∧ LR 11 eQ w' (.slice (some ⟨cb, 0, none⟩) (readyC f.code).length cap) (readyC f.code) ∧ Tn No u w' ∧ u.heap.size ≤ cb) := hid (fun f hf u t => by
    have hfa := (hp.each f hf).no t
    have hfo := hk.each f hf
    have hm := sumC_mem hf
    have hl := hk.lines
    refine (readyCode_raw f.cv f.code p.funs f.regs f.slots ((p.data.length : Int) + p.zero) u hfa.code hfa.each (code_pos hfo) (by omega) hfo.lab hfo.each hfo.regs (by omega)).mono ?_
    rintro e w' ⟨v, rfl, h1, h2, h3⟩
    obtain ⟨cb, cap, rfl, _⟩ := h1.rw.pos (readyC_pos hfo)
    exact ⟨cb, cap, rfl, h1, h2, h3 cb rfl⟩)
  have HFO : Hid (∀ f ∈ p.funs, ∃ a c, f.cv = .slice a f.code.length c) := hid (fun f hf => (hp.each f hf).code.form)
  have hdf := hp.data.form
  have hpf := hp.funs
  obtain ⟨fv, funs, dv, data, zero⟩ := p
  simp only [Wp.val] at *
  obtain ⟨da, dc, rfl⟩ := hdf
  obtain ⟨fd, fc, rfl, hfc, hfm, hat⟩ := hpf
  generalize data.length = dn at *
  have HAT := hid hat
  obtain ⟨fn, hfn⟩ : ∃ fn, funs.length = fn := ⟨_, rfl⟩
  have HN := hid hfn
  rw [hfn] at hfc hfew
  rw [hfn]
  obtain ⟨MP, hMP, hmk⟩ := make_funs fn hfew
  have HR0 : Hid (RD w (w.heap.size + 1) fn funs 0 ((w.alloc (.cells #[.slice fd fn fc, .slice da dn dc, .int .i64 zero] 25)).alloc (.cells MP 121))) := hid (by
    have h := CB.new (w.alloc (.cells #[.slice fd fn fc, .slice da dn dc, .int .i64 zero] 25)) MP 121
    have e : (w.alloc (.cells #[.slice fd fn fc, .slice da dn dc, .int .i64 zero] 25)).heap.size = w.heap.size + 1 := by simp
    rw [e, hMP] at h
    exact ⟨⟨_, h, fun i hi hq => by omega⟩, ((Tn.refl No w).alloc _).alloc _⟩)
  clear hat hfn hp hk hMP
  go_enter Tryz.func42, Tryz.ntmps42
  go_wp2_with fail
  go_loopw [13] (fun i wr => ∃ q : Nat, q ≤ fn ∧ i = .int .i64 (q : Int) ∧ Hid (RD w (w.heap.size + 1) fn funs q wr)) (fun i _ => fn - (intOf i).toNat)
  case atStart => exact ⟨0, by omega, rfl, HR0⟩
  case round =>
    obtain ⟨q, hq, rfl, HR⟩ := hrel
    clear HR0
    by_cases hlt : q < fn
    · have hql : q < funs.length := by have := HN.out; omega
      obtain ⟨g, o, rfl, hg, hcell⟩ := HAT.out (by omega)
      have hcr : ∀ i (hi : i < funs.length) j, j < 5 → wr.cell? ⟨g, o + (i * 5 + j), none⟩ = (eF funs[i])[j]? := fun i hi j hj => by rw [HR.out.tn.cell hg (fun e => e)]; exact hcell i hi j hj
      obtain ⟨q0, q1, q2, q3, q4⟩ := fun_cells hcr q hql
      have hmem : funs[q] ∈ funs := List.getElem_mem hql
      obtain ⟨va, vc', hxv⟩ := HFO.out funs[q] hmem
      have hcd := HRC.out funs[q] hmem
      have HST := hid (fun wr' (h : RD w (w.heap.size + 1) fn funs q wr') cb cap h1 h2 h3 => h.set HN.out hql (by omega) cb cap h1 h2 h3)
      obtain ⟨x, hx⟩ : ∃ x, funs[q] = x := ⟨_, rfl⟩
      rw [hx] at q0 q1 q2 q3 q4 hxv hcd HST
      obtain ⟨nm, pa, re, sl, cv, code⟩ := x
      simp only at q0 q1 q2 q3 q4 hxv hcd HST
      subst hxv
      obtain ⟨rc, hrc⟩ : ∃ rc, readyC code = rc := ⟨_, rfl⟩
      rw [hrc] at hcd HST
      obtain ⟨rn, hrn⟩ : ∃ rn, rc.length = rn := ⟨_, rfl⟩
      rw [hrn] at hcd HST
      clear hcr hx hmem hcell HAT HFO HRC hg hrc hrn
      generalize code.length = vn at *
      have hqi : (q : Int) < (fn : Int) := by omega
      have HCD : Hid (∀ u, Tn No (wr.alloc (.cells #[.string nm, .int .i64 pa, .int .i64 re, .int .i64 sl, .slice va vn vc'] 76)) u → Calls Tryz.prog 72 #[.slice va vn vc'] u fun e w' => ∃ cb cap, e = .returned (.slice (some ⟨cb, 0, none⟩) rn cap) ∧ (w'.cell? ⟨wr.heap.size, 0, none⟩ = some (.string nm) ∧ w'.cell? ⟨wr.heap.size, 1, none⟩ = some (.int .i64 pa) ∧ w'.cell? ⟨wr.heap.size, 4, none⟩ = some (.slice va vn vc')) ∧
          (∃ c0 c1 c2, w'.cell? ⟨w.heap.size + 1, 3 * q, none⟩ = some c0 ∧ w'.cell? ⟨w.heap.size + 1, 3 * q + 1, none⟩ = some c1 ∧ w'.cell? ⟨w.heap.size + 1, 3 * q + 2, none⟩ = some c2) ∧ (∀ i, w'.frozen? ⟨w.heap.size + 1, i, none⟩ = false) ∧
          Hid (RD w (w.heap.size + 1) fn funs (q + 1) (((w'.setCell ⟨w.heap.size + 1, 3 * q, none⟩ (.string nm)).setCell ⟨w.heap.size + 1, 3 * q + 1, none⟩ (.int .i64 pa)).setCell ⟨w.heap.size + 1, 3 * q + 2, none⟩ (.slice (some ⟨cb, 0, none⟩) rn cap)))) := hid (fun u t => by
        have tu := ((Tn.refl No wr).alloc _).then t
        refine (hcd u (HR.out.tn.then tu)).mono ?_
        rintro e w' ⟨cb, cap, rfl, h1, h2, h3⟩
        have hrd := (HR.out.no tu).no h2
        have ex : ∀ i, w'.cell? ⟨wr.heap.size, i, none⟩ = #[.string nm, .int .i64 pa, .int .i64 re, .int .i64 sl, .slice va vn vc'][i]? := fun i => by
          rw [(t.then h2).cell (by simp) (fun e => e)]
          exact World.cell?_alloc_mark _ _ _ _ i
        obtain ⟨c, hc, _⟩ := hrd.cb
        obtain ⟨c9, hc9, _⟩ := (HR.out.no tu).cb
        refine ⟨cb, cap, rfl, ⟨ex 0, ex 1, ex 4⟩, ⟨_, _, _, hc.cell _ (by omega), hc.cell _ (by omega), hc.cell _ (by omega)⟩, hc.froz, hid (HST.out w' hrd cb cap h1 ?_ ?_)⟩
        · have := (HR.out.tn.then tu).size; omega
        · have := hc9.lt; omega)
      rw [Nat.mul_comm 3 q] at HCD
      clear HST hcd HR
      go_wp2_with fail
      go_region_with (go_at_call 72; refine (HCD.out _ (by repeat (first | exact Tn.refl _ _ | apply Tn.drew | apply Tn.drewN))).mono ?_; rintro e w5 ⟨cb, cap, rfl, ⟨k0, k1, k4⟩, ⟨c0, c1, c2, e0, e1, e2⟩, hz, HRN⟩)
      all_goals
        go_wp2_with fail
        go_roundw
        case rel => exact ⟨q + 1, by omega, by go_num, by first | exact HRN | exact hid (HRN.out.no ((Tn.refl No _).drew)) | exact hid (HRN.out.no ((Tn.refl No _).drewN _))⟩
        case measure => simp [intOf]; omega
    · obtain rfl : q = fn := by omega
      go_wp2_with fail
      go_ret
      exact ⟨_, rfl, HR.out, by omega⟩
end Go.Proofs.YtoidddfpekbliaaGreat
namespace Go.Proofs.YtoidddfpekbliaaGreat
set_option linter.unusedSimpArgs false
set_option linter.unusedVariables false
open Go.RowKit
attribute [local go_sem ↓] Go.wp_at_zero Go.wp_at_succ

/-- a step that is counted, or sticks -/
noncomputable def PSt.next (R : List RFun) (strict : Bool) (X : PSt) : PSt :=
  match X.step R strict with
  | some X' => { X' with steps := X'.steps + 1 }
  | none => { X with status := 2 }
noncomputable def PSt.run (R : List RFun) (strict : Bool) : Nat → PSt → PSt
  | 0, X => X
  | k + 1, X => if X.status = 0 then PSt.run R strict k (X.next R strict) else X
/-- a run of a and b steps is a run of a and then one of b -/
theorem PSt.run_add (R : List RFun) (strict : Bool) (a b : Nat) (X : PSt) : PSt.run R strict (a + b) X = PSt.run R strict b (PSt.run R strict a X) := by
  induction a generalizing X with
  | zero => rw [Nat.zero_add]; rfl
  | succ a ih =>
    rw [Nat.succ_add, PSt.run, PSt.run]
    split
    · exact ih _
    · rename_i h
      cases b with
      | zero => rfl
      | succ b => rw [PSt.run, if_neg h]
theorem PSt.run_over (R : List RFun) (strict : Bool) (k : Nat) {X : PSt} (h : X.status ≠ 0) : PSt.run R strict k X = X := by
  cases k with
  | zero => rfl
  | succ k => rw [PSt.run, if_neg h]
/-- one more step behind a run -/
theorem PSt.run_succ (R : List RFun) (strict : Bool) (k : Nat) (X : PSt) (h : (PSt.run R strict k X).status = 0) : PSt.run R strict (k + 1) X = (PSt.run R strict k X).next R strict := by
  rw [PSt.run_add, PSt.run, if_pos h]
  rfl

section
variable {p N fb pw : Nat} {R : List RFun} {strict : Bool} {B : Nat} {X : PSt} {b cap : Nat} {vd vh : Value} {fc c : Nat → Value} {w : World} {L : Nat → Option Lb} {Lw : Nat → Option Lab}

theorem POk.steps (h : POk R B X) (n : Nat) : POk R B { X with steps := n } := ⟨h.fok, h.fw, h.wf, h.sd, h.sh, h.op⟩
theorem POk.stuck (h : POk R B X) : POk R B { X with status := 2 } := ⟨h.fok, h.fw, h.wf, h.sd, h.sh, fun e => by cases e⟩

/-- a step on a process that goes on -/
theorem step_raw (hR : RWF R) (hRK : RKd R) (hp : PA p N fb pw R strict X w L Lw) (hok : POk R B X) (hB : B ≤ 1099511627776) (hst : X.status = 0) (hN : N ≤ 545460846592) :
    Calls Tryz.prog 48 #[.pointer (some ⟨p, 0, none⟩)] w fun e w' => e = .returned (.bool (X.step R strict).isSome) ∧ PL p (N + 2 * B + 8) fb pw R strict ((X.step R strict).getD X) w L Lw w' ∧ ∀ X', X.step R strict = some X' → POk R B X' := by
  obtain ⟨b, cap, vd, vh, fc, c, hp⟩ := hp
  have hne := hok.op hst
  obtain ⟨fs, g, hf⟩ : ∃ fs g, X.fs = fs ++ [g] := ⟨X.fs.dropLast, X.fs.getLast hne, (List.dropLast_concat_getLast hne).symm⟩
  obtain ⟨rf, hg, hat⟩ := hok.fok g (by rw [hf]; simp)
  obtain ⟨q, hq⟩ : ∃ q, rf.code[g.at_]? = some q := ⟨_, List.getElem?_eq_getElem hat⟩
  have es : X.step R strict = stepF R strict X fs g q := by
    unfold PSt.step
    rw [hf, List.getLast?_concat, List.dropLast_concat]
    simp only [hg, Option.bind_some, hq]
  rw [es]
  have hwait : fs = [] ∨ ∃ fs' g', fs = fs' ++ [g'] ∧ FWait R g' := by
    by_cases e : fs = []
    · exact .inl e
    · refine .inr ⟨fs.dropLast, fs.getLast e, (List.dropLast_concat_getLast e).symm, ?_⟩
      have := hok.fw
      rw [hf, List.dropLast_concat] at this
      exact this _ (List.getLast_mem e)
  refine (step_all (K := N + 2 * B + 8) hR hp hf hg hq (hRK _ _ hg _ _ hq) hwait hok.wf hN (by omega) (fun n _ ht => by have := there_le hB hok.sd hok.sh ht; omega) (by omega)).mono ?_
  rintro e w' ⟨rfl, hpl⟩
  exact ⟨rfl, hpl, fun X' hs => stepF_ok hR hp hok hf hg hq hs⟩

theorem PL.count {K : Nat} {Y : PSt} {w2 : World} (h : PL p K fb pw R strict Y w L Lw w2) : (w2.cell? ⟨p, 17, none⟩ = some (.int .i64 (Y.steps : Int)) ∧ w2.frozen? ⟨p, 17, none⟩ = false ∧ p < w2.heap.size) ∧ PL p K fb pw R strict { Y with steps := Y.steps + 1 } w L Lw (w2.setCell ⟨p, 17, none⟩ (.int .i64 ((Y.steps : Int) + 1))) := by
  obtain ⟨L', Lw', ⟨b, cap, vd, vh, fc, c, g1⟩, g2, g3⟩ := h
  refine ⟨⟨by rw [g1.ox.bx.pc.cell 17 (by omega), g1.c17], g1.ox.bx.pc.froz 17, g1.ox.bx.pc.lt⟩, ?_⟩
  obtain ⟨z1, z2⟩ := g1.own (X' := { Y with steps := Y.steps + 1 }) 17 (by omega) (by omega) (.int .i64 ((Y.steps : Int) + 1)) rfl rfl rfl (by rw [upd_other _ _ (by omega)]; exact g1.c11) (by rw [upd_other _ _ (by omega)]; exact g1.c14) (by rw [upd_other _ _ (by omega)]; exact g1.c15) (by rw [upd_other _ _ (by omega)]; exact g1.c16) (by rw [upd_same]; simp)
  have hpl : PL p K fb pw R strict { Y with steps := Y.steps + 1 } w2 L' Lw' (w2.setCell ⟨p, 17, none⟩ (.int .i64 ((Y.steps : Int) + 1))) := ⟨L', Lw', z1.pa, z2, fun _ _ a b => ⟨a, b⟩⟩
  exact hpl.trans g2 g3
theorem PL.stick {K : Nat} {Y : PSt} {w2 : World} (h : PL p K fb pw R strict Y w L Lw w2) : (w2.cell? ⟨p, 14, none⟩ = some (.int .i64 Y.status) ∧ w2.frozen? ⟨p, 14, none⟩ = false ∧ p < w2.heap.size) ∧ PL p K fb pw R strict { Y with status := 2 } w L Lw (w2.setCell ⟨p, 14, none⟩ (.int .i64 2)) := by
  obtain ⟨L', Lw', ⟨b, cap, vd, vh, fc, c, g1⟩, g2, g3⟩ := h
  refine ⟨⟨by rw [g1.ox.bx.pc.cell 14 (by omega), g1.c14], g1.ox.bx.pc.froz 14, g1.ox.bx.pc.lt⟩, ?_⟩
  obtain ⟨z1, z2⟩ := g1.own (X' := { Y with status := 2 }) 14 (by omega) (by omega) (.int .i64 2) rfl rfl rfl (by rw [upd_other _ _ (by omega)]; exact g1.c11) (by rw [upd_same]) (by rw [upd_other _ _ (by omega)]; exact g1.c15) (by rw [upd_other _ _ (by omega)]; exact g1.c16) (by rw [upd_other _ _ (by omega)]; exact g1.c17)
  have hpl : PL p K fb pw R strict { Y with status := 2 } w2 L' Lw' (w2.setCell ⟨p, 14, none⟩ (.int .i64 2)) := ⟨L', Lw', z1.pa, z2, fun _ _ a b => ⟨a, b⟩⟩
  exact hpl.trans g2 g3
theorem PL.cells {K : Nat} {Y : PSt} {w2 : World} (h : PL p K fb pw R strict Y w L Lw w2) : w2.cell? ⟨p, 14, none⟩ = some (.int .i64 Y.status) ∧ p < w2.heap.size ∧ ∃ b cap, w2.cell? ⟨p, 12, none⟩ = some (.slice (some ⟨b, 0, none⟩) Y.fs.length cap) := by
  obtain ⟨L', Lw', ⟨b, cap, vd, vh, fc, c, g1⟩, g2, g3⟩ := h
  exact ⟨by rw [g1.ox.bx.pc.cell 14 (by omega), g1.c14], g1.ox.bx.pc.lt, b, cap, by rw [g1.ox.bx.pc.cell 12 (by omega), g1.ox.ov]⟩
/-- the step of a process as it lies now -/
theorem PL.steps (hR : RWF R) (hRK : RKd R) {K : Nat} {Y : PSt} {w2 : World} (h : PL p K fb pw R strict Y w L Lw w2) (hok : POk R B Y) (hB : B ≤ 1099511627776) (hst : Y.status = 0) (hN : K ≤ 545460846592) :
    Calls Tryz.prog 48 #[.pointer (some ⟨p, 0, none⟩)] w2 fun e w' => e = .returned (.bool (Y.step R strict).isSome) ∧ PL p (K + 2 * B + 8) fb pw R strict ((Y.step R strict).getD Y) w L Lw w' ∧ ∀ X', Y.step R strict = some X' → POk R B X' := by
  obtain ⟨L', Lw', hpa, g2, g3⟩ := h
  exact (step_raw hR hRK hpa hok hB hst hN).mono (fun e w' z => ⟨z.1, z.2.1.trans g2 g3, z.2.2⟩)
end
end Go.Proofs.YtoidddfpekbliaaGreat
