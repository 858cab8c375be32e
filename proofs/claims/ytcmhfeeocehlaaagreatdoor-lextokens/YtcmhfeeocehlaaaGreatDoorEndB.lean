/-
  strconv.ParseFloat: of a real's text it answers a real that the text alone tells.
-/
import Derived.Test.YtcmhfeeocehlaaaGreatDoorPF24
import Derived.Test.YtcmhfeeocehlaaaGreatDoorRealText
import Derived.Test.YtcmhfeeocehlaaaGreatDoorTokA
import Derived.Test.YtcmhfeeocehlaaaGreatDoorLaid
import Derived.Handed
import Derived.ProofKit
import Derived.Stop.Joined
namespace Go.Proofs.YtcmhfeeocehlaaaGreatDoor
set_option linter.unusedSimpArgs false
set_option linter.unusedVariables false
open Go.RowKit Go.PlainAid
attribute [local go_sem ↓] Go.wp_at_zero Go.wp_at_succ

set_option maxHeartbeats 4000000 in
set_option maxRecDepth 100000 in
theorem prefix_ex (T : Tabs) (hT : T.Ok) (s : ByteArray) (hs : Wf s) : ∃ v er, (er = Value.nilIface ∨ er = .iface 98 (.int .i64 1)) ∧ ∀ (w : World), (∃ g p P, GA T w g p P) →
    Calls Tryz.prog 87 #[.string s, .int .i64 64] w fun e w' => e = .returned (.tuple #[.float .f64 v, .int .i64 s.size, er]) ∧ Tn No w w' := by
  obtain ⟨v, er, h1, h2⟩ := atof_ex T hT s hs
  refine ⟨v, er, h1, fun w hw => ?_⟩
  have HC := hid (h2 w hw)
  clear h2 hw
  go_enter Tryz.func87, Tryz.ntmps87
  go_wp2_with (go_at_call 104; refine (HC.out).mono ?_; rintro en w1 ⟨rfl, t1⟩)
  go_ret3
  exact ⟨rfl, t1⟩

set_option maxHeartbeats 4000000 in
set_option maxRecDepth 100000 in
theorem inner_ex (T : Tabs) (hT : T.Ok) (s : ByteArray) (hs : Wf s) : ∃ v er, (er = Value.nilIface ∨ er = .iface 98 (.int .i64 1)) ∧ ∀ (w : World), (∃ g p P, GA T w g p P) →
    Calls Tryz.prog 78 #[.string s, .int .i64 64] w fun e w' => e = .returned (.tuple #[.float .f64 v, er]) ∧ Tn No w w' := by
  obtain ⟨v, er, h1, h2⟩ := prefix_ex T hT s hs
  refine ⟨v, er, h1, fun w hw => ?_⟩
  have HC := hid (h2 w hw)
  clear h2 hw
  go_enter Tryz.func78, Tryz.ntmps78
  go_wp2_with (go_at_call 87; refine (HC.out).mono ?_; rintro en w1 ⟨rfl, t1⟩)
  go_ret2
  exact ⟨rfl, t1⟩
theorem Tn.ofBelow {a b : World} (h : Below a.heap.size a b) : Tn No a b := ⟨h.os, h.tape, h.output, h.size, fun k hk _ => h.block k hk⟩
/-- the variable ErrRange holds an error, or nothing -/
def G3 (w : World) : Prop := ∃ ev, w.cell? ⟨3, 0, none⟩ = some ev ∧ (ev = .nilIface ∨ ∃ te pe, ev = .iface te pe)
theorem G3.no {w u : World} (h : G3 w) (t : Tn No w u) : G3 u := by
  obtain ⟨ev, h1, h2⟩ := h
  exact ⟨ev, (t.cell (World.block_lt_of_cell? _ _ h1) (fun e => e)).trans h1, h2⟩

set_option maxHeartbeats 4000000 in
set_option maxRecDepth 100000 in
theorem parse_ex (T : Tabs) (hT : T.Ok) (s : ByteArray) (hs : Wf s) : ∃ v, ∀ (w : World), (∃ g p P, GA T w g p P) → G3 w →
    Calls Tryz.prog 66 #[.string s, .int .i64 64] w fun e w' => ∃ er, e = .returned (.tuple #[.float .f64 v, er]) ∧ Tn No w w' := by
  obtain ⟨v, er, h1, h2⟩ := inner_ex T hT s hs
  have hsm := hs.tx.small
  refine ⟨v, fun w hw h3 => ?_⟩
  have HC := hid (h2 w hw)
  have H3 := hid h3
  clear h2 hw h3
  rcases h1 with rfl | rfl
  · go_enter Tryz.func66, Tryz.ntmps66
    go_wp2_with (go_at_call 78; refine (HC.out).mono ?_; rintro en w1 ⟨rfl, t1⟩)
    go_ret2
    exact ⟨_, rfl, t1⟩
  · go_enter Tryz.func66, Tryz.ntmps66
    go_wp2_with (first
      | (go_at_call 78; refine (HC.out).mono ?_; rintro en w1 ⟨rfl, t1⟩)
      | (go_at_call 79; obtain ⟨ev, q1, q2⟩ := H3.out.no t1; refine (Tryz.strconv_toError_range _ s 0 64 ev w1 (by omega) q1 q2).mono ?_; rintro en w2 ⟨N, rfl, _, _, b2⟩; have t2 := Tn.ofBelow b2; clear b2))
    go_ret2
    exact ⟨_, rfl, t1.then t2⟩
end Go.Proofs.YtcmhfeeocehlaaaGreatDoor
namespace Go.Proofs.YtcmhfeeocehlaaaGreatDoor
set_option linter.unusedSimpArgs false
set_option linter.unusedVariables false
open Go.RowKit Go.PlainAid
attribute [local go_sem ↓] Go.wp_at_zero Go.wp_at_succ
attribute [local go_sem] fbits_run

theorem GA.no {T : Tabs} {w u : World} {g p P : Nat × Nat} (h : GA T w g p P) (t : Tn No w u) : GA T u g p P := by
  have kp : ∀ {k o v}, w.cell? ⟨k, o, none⟩ = some v → u.cell? ⟨k, o, none⟩ = some v := fun {k o v} h => (t.cell (World.block_lt_of_cell? _ _ h) (fun e => e)).trans h
  exact ⟨kp h.opt, ⟨kp h.g6.m, kp h.g6.e, kp h.g6.b⟩, ⟨kp h.g8.var, fun i hi => kp (h.g8.row i hi)⟩, kp h.g9, fun i hi => kp (h.g9r i hi), fun i hi => kp (h.g12 i hi), h.g13.no t⟩
/-- what lies in memory that reals are read by -/
structure GT (T : Tabs) (w : World) : Prop where
  ga : ∃ g p P, GA T w g p P
  g3 : G3 w
  ml : ∃ m, w.cell? ⟨1, 0, none⟩ = some (.int .i64 m)
theorem GT.no {T : Tabs} {w u : World} (h : GT T w) (t : Tn No w u) : GT T u := by
  obtain ⟨⟨g, p, P, h1⟩, h2, m, h3⟩ := h
  exact ⟨⟨g, p, P, h1.no t⟩, h2.no t, m, (t.cell (World.block_lt_of_cell? _ _ h3) (fun e => e)).trans h3⟩

def tilde : ByteArray := ⟨#[126]⟩
def minus : ByteArray := ⟨#[45]⟩
theorem replace_raw (x : ByteArray) (m : Int) (w : World) (hx : x.size ≤ 100) (hm : w.cell? ⟨1, 0, none⟩ = some (.int .i64 m)) :
    Calls Tryz.prog 84 #[.string x, .string tilde, .string minus] w fun e w' => e = .returned (.string (ngT x)) ∧ Tn No w w' := by
  have hc := Lib.countB_le tilde (by decide) x.size x (Nat.le_refl _)
  have h1 : minus.size = 1 := rfl
  refine (Tryz.strings_ReplaceAll x tilde minus m w (by omega) hm (by decide) (by rw [h1]; omega)).mono ?_
  rintro e w' ⟨rfl, hb⟩
  refine ⟨?_, Tn.ofBelow hb⟩
  have : Lib.replaceAll x.data.toList tilde.data.toList minus.data.toList = x.data.toList.map neg1 := rep_map _
  rw [this]; rfl

set_option maxHeartbeats 2000000 in
set_option maxRecDepth 100000 in
theorem realBits_ex (T : Tabs) (hT : T.Ok) (x : ByteArray) (hx : Wf (ngT x)) : ∃ b, ∀ (w : World), GT T w →
    Calls Tryz.prog 73 #[.string x] w fun e w' => e = .returned (.int .u64 b) ∧ Tn No w w' := by
  have hsz := hx.tx.small
  rw [ng_size] at hsz
  obtain ⟨v, hv⟩ := parse_ex T hT _ hx
  refine ⟨(v : Int), fun w hw => ?_⟩
  have HW := hid hw
  obtain ⟨m, hm⟩ := hw.ml
  have HR := hid (replace_raw x m w hsz hm)
  have HV := hid hv
  clear hw hm hv hx
  unfold tilde minus at HR
  go_enter Tryz.func73, Tryz.ntmps73
  go_wp2_with (first
    | (go_at_call 84; refine (HR.out).mono ?_; rintro en w1 ⟨rfl, t1⟩)
    | (go_at_call 66; refine (HV.out w1 (HW.out.no t1).ga (HW.out.no t1).g3).mono ?_; rintro en w2 ⟨er, rfl, t2⟩))
  go_ret
  exact ⟨rfl, t1.then t2⟩

open Classical in
/-- the bits of the real that a text says -/
noncomputable def rbOf (T : Tabs) (x : ByteArray) : Int :=
  if h : ∃ b, ∀ (w : World), GT T w → Calls Tryz.prog 73 #[.string x] w fun e w' => e = .returned (.int .u64 b) ∧ Tn No w w' then h.choose else 0
theorem rb_of (T : Tabs) (hT : T.Ok) (x : ByteArray) (hx : Wf (ngT x)) {w : World} (hw : GT T w) : RBW w x (rbOf T x) := by
  have h := realBits_ex T hT x hx
  intro u tu
  have e : rbOf T x = h.choose := by unfold rbOf; rw [dif_pos h]
  rw [e]
  exact h.choose_spec u (hw.no tu)
theorem reals_of (T : Tabs) (hT : T.Ok) (s : ByteArray) {w : World} (hw : GT T w) : RBs (rbOf T) s w := fun a _ _ hn _ hl => rb_of T hT _ (num_wf s a hn hl) hw
end Go.Proofs.YtcmhfeeocehlaaaGreatDoor
namespace Go.Proofs.YtcmhfeeocehlaaaGreatDoor
set_option linter.unusedSimpArgs false
set_option linter.unusedVariables false
open Go.RowKit Go.PlainAid

theorem all_range {f : Nat → Bool} {n : Nat} (h : (List.range n).all f = true) (i : Nat) (hi : i < n) : f i = true := List.all_eq_true.1 h i (List.mem_range.2 hi)
/-- a row of leftcheats -/
def chR (k : Nat) : Nat × ByteArray := ((Go.Pinned.cheatRows.getD k (0, [])).1, ⟨(Go.Pinned.cheatRows.getD k (0, [])).2.toArray⟩)
def chB (k : Nat) : Bool :=
  decide (1 ≤ (chR k).2.size) && decide ((chR k).2.size ≤ 100) && (List.range (chR k).2.size).all (fun i => decide (48 ≤ bt (chR k).2 i) && decide (bt (chR k).2 i ≤ 57)) && decide (49 ≤ bt (chR k).2 ((chR k).2.size - 1)) &&
    decide (49 ≤ bt (chR k).2 0) && decide (cv (chR k).2 (chR k).2.size = 5 ^ k) && decide ((chR k).1 + (chR k).2.size = k + 1) && decide (1 ≤ (chR k).1) && decide ((chR k).1 ≤ 19)
set_option maxRecDepth 100000 in
theorem ch_all : (List.range 60).all (fun k => chB (k + 1)) = true := by kernel_rfl
theorem ch_ok : ChOk chR := by
  intro k h1 h2
  have h := all_range ch_all (k - 1) (by omega)
  rw [show k - 1 + 1 = k by omega] at h
  unfold chB at h
  simp only [Bool.and_eq_true, decide_eq_true_eq] at h
  obtain ⟨⟨⟨⟨⟨⟨⟨⟨a1, a2⟩, a3⟩, a4⟩, a5⟩, a6⟩, a7⟩, a8⟩, a9⟩ := h
  refine ⟨⟨⟨a1, a2, fun i hi => ?_, a4⟩, a5, a6, a7⟩, a8, a9⟩
  have := all_range a3 i hi
  simp only [Bool.and_eq_true, decide_eq_true_eq] at this
  exact this
theorem pt_all : (List.range 9).all (fun i => decide (1 ≤ ptL.getD i 0) && decide (ptL.getD i 0 ≤ 60)) = true := by kernel_rfl
def nzB (x : Nat) : Bool := match FloatKind.f64.decode x with
  | .number _ (_ + 1) _ => true
  | _ => false
theorem nz_of {x : Nat} (h : nzB x = true) : Nz x := by
  unfold nzB at h
  split at h
  · rename_i s m i e; exact ⟨s, m, i, e⟩
  · cases h
theorem pw_all : (List.range 23).all (fun i => nzB (pwL.getD i 0)) = true := by kernel_rfl
set_option maxRecDepth 100000 in
theorem tab_all : Go.Pinned.pow10Rows.all (fun x => decide (x.1 < 18446744073709551616) && decide (x.2 < 18446744073709551616)) = true := by kernel_rfl
theorem tab_lt (i : Nat) : (Go.Pinned.pow10Rows.getD i (0, 0)).1 < 18446744073709551616 ∧ (Go.Pinned.pow10Rows.getD i (0, 0)).2 < 18446744073709551616 := by
  rw [List.getD_eq_getElem?_getD]
  cases h : Go.Pinned.pow10Rows[i]? with
  | none => simp
  | some r =>
    have := List.all_eq_true.1 tab_all r (List.mem_of_getElem? h)
    simpa using this
/-- the tables -/
def theTabs : Tabs := ⟨chR, fun i => ptL.getD i 0, fun i => pwL.getD i 0, p10T⟩
theorem theTabs_ok : theTabs.Ok := by
  refine ⟨ch_ok, fun i hi => ?_, fun i hi => nz_of (all_range pw_all i hi), fun i => ?_⟩
  · have := all_range pt_all i hi
    simp only [Bool.and_eq_true, decide_eq_true_eq] at this
    exact this
  · show p10T i < _
    unfold p10T
    have := tab_lt (i / 2)
    split
    · exact this.1
    · exact this.2
theorem gt_of {w : World} (h : laidMetH Tryz.prog theLaid w) (hs : w.ShapedOpen Tryz.prog) : GT theTabs w := by
  rw [MakeChecks.laidMetH_plain _ _ _ (by kernel_rfl)] at h
  obtain ⟨ps, hL, _⟩ := h
  obtain ⟨b8, o8, p1, p2⟩ := laid_powtab hL
  obtain ⟨b9, o9, q1, q2⟩ := laid_pow10 hL
  obtain ⟨b13, o13, r1, r2⟩ := laid_cheats hL
  obtain ⟨i1, i2, i3⟩ := laid_info hL
  exact ⟨⟨(b13, o13), (b8, o8), (b9, o9), laid_opt hL, ⟨i1, i2, i3⟩, ⟨p1, p2⟩, q1, q2, laid_tab hL, ⟨r1, r2⟩⟩, laid_err hL, max_len hs⟩
end Go.Proofs.YtcmhfeeocehlaaaGreatDoor
namespace Go.Proofs.YtcmhfeeocehlaaaGreatDoor
set_option linter.unusedSimpArgs false
set_option linter.unusedVariables false
theorem Tryz.own : ownKnob Tryz.prog.godebug = none := by kernel_rfl
variable {H : Type} {enc : TypeId × Value → H}
theorem wrap_row {C : Checked} {os : Os} {f : FuncId} {fn : Func} {s : ChangeSpec} {conds : List PathCond} {apart fresh handsOn again : Bool} {laid : List (String × DataW Unit)}
    (own : ownKnob C.prog.godebug = none) (started : os.Started) (noInit : C.prog.inits.idxOf? f = none) (hfn : C.prog.funcs[f]? = some fn)
    (witness : ∃ (w : World) (tape : Tape) (i : Input), w.os = os ∧ (w.forCall tape i).Shaped C.prog ∧ i.vars = [] ∧ Input.okWide C.prog (w.forCall tape i) .any w.heap.size f i ∧
      ((s.pre enc C.prog fn conds apart (w.forCall tape i).memory i.args ∧ laidMetH C.prog laid (w.forCall tape i).memory) ∧ sizedMet enc C.prog fn (OpenSpec.ofChange s) apart (w.forCall tape i).memory i.args) ∧ ({} : Assume).holds C.prog (lone (Frame.enter C.prog f i.args .normal) [] (w.forCall tape i)))
    (contract : ∀ (W : World) (base : Nat) (args : Array Value) (ds gs : List (DataW H)) (before : List MemPlace),
      (∀ (j : Nat) t v, fn.params[j]? = some t → args[j]? = some v → Value.okWide C.prog W .any base t v) →
      DataW.Whole enc C.prog fn.params.toList s.vars apart W args.toList ds gs before →
      (DataW.weightsEach C.prog (fn.params.toList ++ s.plain.varTypes C.prog) (ds ++ gs)).all (· ≤ reachBytes) = true →
      laidMetH C.prog laid W → W.ShapedOpen C.prog →
      Calls C.prog f args W fun e W' => ∃ v, e = .returned v ∧ s.post enc C.prog fn apart fresh handsOn again W args v W') :
    ReturnsInHanded {} C os f .any (fun w args => (s.pre enc C.prog fn conds apart w args ∧ laidMetH C.prog laid w) ∧ sizedMet enc C.prog fn (OpenSpec.ofChange s) apart w args) (s.post enc C.prog fn apart fresh handsOn again) := by
  refine returnsInHanded_of_calls own started noInit witness ?_
  intro w tape i _ hsh _ hok hpre _
  obtain ⟨_, _, _, fn', hfn', _, _, _, _, hval⟩ := hok
  have e : fn' = fn := Option.some.inj (hfn'.symm.trans hfn)
  subst e
  obtain ⟨⟨⟨ds, gs, before, hw, _⟩, hx⟩, hz⟩ := hpre
  have hw' := DataW.Whole.of_heap (w' := w.forCall tape i) (by rfl) hw
  refine (contract (w.forCall tape i) w.heap.size i.args ds gs before hval hw' (hz.weights hw) (hx.of_heap (by rfl)) hsh).mono fun e W' ⟨v, he, hp⟩ => ?_
  subst he
  exact ChangeSpec.post_blind hp
end Go.Proofs.YtcmhfeeocehlaaaGreatDoor
