/-
  word: a leaf is given back.
-/
import Derived.Test.YtoidddfpekbliaaGreatWJ15
import Derived.Test.YtoidddfpekbliaaGreatWJ03
import Derived.Maps.RangeWalk
import Derived.BigRegion
namespace Go.Proofs.YtoidddfpekbliaaGreat
set_option linter.unusedSimpArgs false
set_option linter.unusedVariables false
open Go.RowKit
attribute [local go_sem ↓] Go.wp_at_zero Go.wp_at_succ

theorem lp_info : (Tryz.prog.info? 163).map (fun i => (i.zero, i.size, i.bytes)) = some (some (.pointer none), 1, 8) := by kernel_rfl

/-- one more pointer goes behind those that are there -/
theorem sp_more {w : World} {v : Value} {n : Nat} (h : RW w 1 v n) (g : Nat) (hn : n ≤ 1048576) :
    ∃ v' w', (Builtin.append_ #[110, 110] 110 #[v, .slice (some ⟨w.heap.size, 0, none⟩) 1 1]).run Tryz.prog (w.alloc (.cells #[.pointer (some ⟨g, 0, none⟩)] 163)) = .ok v' w' ∧ RW w' 1 v' (n + 1) ∧ (∀ j, j < n → vc w' v' j = vc w v j) ∧ vc w' v' n = some (pv (some g)) ∧
      (w.alloc (.cells #[.pointer (some ⟨g, 0, none⟩)] 163)).grownBy w' v.ownBlock ∧ (v'.ownBlock = v.ownBlock ∨ v'.ownBlock = some (w.heap.size + 1)) := by
  have hsrc : Src Tryz.prog 1 110 (.slice (some ⟨w.heap.size, 0, none⟩) 1 1) 1 [pv (some g)] (w.alloc (.cells #[.pointer (some ⟨g, 0, none⟩)] 163)) := by
    refine Src.ofSlice _ Tryz.underlying110 _ 1 1 _ rfl (fun j u hu => ?_) (fun u hu => by simp at hu; subst hu; rfl)
    have hj : j = 0 ∧ u = pv (some g) := by
      cases j with
      | zero => simp at hu; exact ⟨rfl, hu.symm⟩
      | succ j => simp at hu
    obtain ⟨rfl, rfl⟩ := hj
    rw [addr_add, World.cell?_alloc_at _ _ _ _ (by simp)]
    rfl
  obtain ⟨i, hi, hz0, hz1, hz2⟩ := info_parts lp_info
  have hk : ∀ g', v.ownBlock = some g' → (w.alloc (.cells #[.pointer (some ⟨g, 0, none⟩)] 163)).heap[g']? = w.heap[g']? := fun g' e => Below.heap_alloc _ _ _ (h.lt g' e)
  obtain ⟨v', w', hr, hrw, hold, hnew, hgr, hown⟩ := rw_append 110 163 i _ 1 8 Tryz.underlying110 hi hz0 hz1 hz2 rfl (h.kept hk) hsrc (by unfold maxLen; omega) (by omega) (by omega)
  refine ⟨v', w', hr, hrw, fun j hj => (hold j (by omega)).trans (vc_kept hk j), ?_, hgr, ?_⟩
  · have := hnew 0 (by simp)
    rw [Nat.mul_one, Nat.add_zero] at this
    exact this
  · rcases hown with e | e
    · exact .inl e
    · right; rw [e]; simp

/-- a leaf has been given -/
def GV (p : Nat) (L : Nat → Option Lb) (c : Nat → Value) (g : Nat) (w w' : World) : Prop :=
  ∃ sv' sp' L', SPR w' L' sv' sp' ∧ CB w' p 18 (upd c 13 sv') ∧ Tn (fun k => k = p ∨ L k = some .spr) w w' ∧ (∀ k, k ≠ g → k < w.heap.size → L' k = L k) ∧ (L' g = none ∨ ∃ i, L' g = some (.sp i)) ∧
    (∀ k l, w.heap.size ≤ k → L' k = some l → l = .spr ∧ k < w'.heap.size)

section
variable {p : Nat} {L : Nat → Option Lb} {sv : Value} {sp : List Nat} {c : Nat → Value} {w : World} {g : Nat}

set_option maxHeartbeats 1000000 in
theorem give_nil (w : World) : Calls Tryz.prog 146 #[.pointer (some ⟨p, 13, none⟩), .pointer none] w fun e w' => e = .returned (.tuple #[]) ∧ w' = w := by
  go_enter Tryz.func146, Tryz.ntmps146
  go_wp2
  go_end0
  exact ⟨rfl, rfl⟩

theorem gv_full (hp : CB w p 18 c) (h13 : c 13 = sv) (h : SPR w L sv sp) (hlt : ∀ k, L k ≠ none → k < w.heap.size) {j : Nat} {r : Bool} {n : Nat} (hg : L g = some (.lf j r n)) : GV p L c g w w := by
  refine ⟨sv, sp, upd L g none, ?_, by rw [← h13, upd_self]; exact hp, Tn.refl _ _, fun k hk _ => upd_other _ _ hk, .inl (upd_same _ _ _), fun k l hk e => ?_⟩
  · exact h.kept (fun _ _ => rfl) (fun k e => upd_other _ _ (by rintro rfl; rcases e with e | ⟨i, e⟩ <;> (rw [hg] at e; cases e)))
  · by_cases e' : k = g
    · subst e'; rw [upd_same] at e; cases e
    · rw [upd_other _ _ e', labNone hlt hk] at e; cases e

theorem gv_more {s : Int} {cv : Nat → Int} {v' : Value} {w1 : World} (hp : CB w p 18 c) (h : SPR w L sv sp) (hlt : ∀ k, L k ≠ none → k < w.heap.size) (hL : L p = some .own) {j : Nat} {r : Bool} {n : Nat} (hg : L g = some (.lf j r n)) (hlf : LF w g s cv) (hlen : sp.length < 1024)
    (o : Obj) (hrw : RW w1 1 v' (sp.length + 1)) (hold : ∀ j, j < sp.length → vc w1 v' j = vc w sv j) (hnew : vc w1 v' sp.length = some (pv (some g))) (hgr : (w.alloc o).grownBy w1 sv.ownBlock) (hown : v'.ownBlock = sv.ownBlock ∨ v'.ownBlock = some (w.heap.size + 1)) :
    GV p L c g w (w1.setCell ⟨p, 13, none⟩ v') := by
  obtain ⟨L1, hL1⟩ : ∃ L1 : Nat → Option Lb, L1 = upd (fun k => if k = w.heap.size + 1 ∧ v'.ownBlock = some k then some .spr else L k) g (some (.sp sp.length)) := ⟨_, rfl⟩
  have hsz : (w.alloc o).heap.size = w.heap.size + 1 := by simp
  have hs1 := hgr.size
  rw [hsz] at hs1
  have hglt := hlt g (by rw [hg]; simp)
  have up : ∀ k, k ≠ g → k < w.heap.size → L1 k = L k := fun k h1 h2 => by rw [hL1, upd_other _ _ h1, if_neg (by omega)]
  have hb : ∀ k, k < w.heap.size → L k ≠ some .spr → w1.heap[k]? = w.heap[k]? := fun k h1 h2 => by
    rw [hgr.block k (by rw [hsz]; omega) (fun e => h2 (h.lab k e.symm))]
    exact Below.heap_alloc _ _ _ h1
  have hst : ∀ k, k ≠ p → (w1.setCell ⟨p, 13, none⟩ v').heap[k]? = w1.heap[k]? := fun k hk => Below.heap_setCell _ _ _ _ hk
  have hp1 : CB w1 p 18 c := hp.kept (hb p hp.lt (by rw [hL]; simp))
  have hvp : ∀ k, v'.ownBlock = some k → k ≠ p := fun k e => by
    rintro rfl
    rcases hown with e' | e'
    · rw [e] at e'; have := h.lab k e'.symm; rw [hL] at this; cases this
    · rw [e] at e'; cases e'; have := hp.lt; omega
  have hvk : ∀ k, v'.ownBlock = some k → (w1.setCell ⟨p, 13, none⟩ v').heap[k]? = w1.heap[k]? := fun k e => hst k (hvp k e)
  refine ⟨v', sp ++ [g], L1, ⟨?_, fun k e => ?_, fun i q e => ?_, by simp; omega⟩, hp1.set 13 (by omega) _, ⟨hgr.os, hgr.tape, hgr.output, by simp; omega, fun k hk hne => ?_⟩, up, .inr ⟨sp.length, by rw [hL1]; exact upd_same _ _ _⟩, fun k l hk e => ?_⟩
  · rw [List.length_append]; exact hrw.kept hvk
  · rcases hown with e' | e'
    · rw [e] at e'
      have := h.lab k e'.symm
      rw [up k (by rintro rfl; rw [hg] at this; cases this) (hlt k (by rw [this]; simp))]; exact this
    · have e2 := e
      rw [e] at e'; cases e'
      rw [hL1, upd_other _ _ (by omega), if_pos ⟨rfl, e2⟩]
  · rcases Nat.lt_or_ge i sp.length with hi | hi
    · rw [List.getElem?_append_left hi] at e
      obtain ⟨r1, r2, s', c', r3⟩ := h.at' i q e
      have hqg : q ≠ g := by rintro rfl; rw [hg] at r2; cases r2
      have hqp : q ≠ p := by rintro rfl; rw [hL] at r2; cases r2
      have hql := hlt q (by rw [r2]; simp)
      exact ⟨(vc_kept hvk i).trans ((hold i hi).trans r1), by rw [up q hqg hql]; exact r2, s', c', r3.kept ((hst q hqp).trans (hb q hql (by rw [r2]; simp)))⟩
    · have hi2 : i = sp.length := by
        have := (List.getElem?_eq_some_iff.1 e).1
        simp at this; omega
      subst hi2
      have : q = g := by simpa using e.symm
      subst this
      exact ⟨(vc_kept hvk _).trans hnew, by rw [hL1]; exact upd_same _ _ _, s, cv, hlf.kept ((hst q (by rintro rfl; rw [hL] at hg; cases hg)).trans (hb q hglt (by rw [hg]; simp)))⟩
  · exact (hst k (fun e => hne (.inl e))).trans (hb k hk (fun e => hne (.inr e)))
  · rw [hL1, upd_other _ _ (by omega)] at e
    split at e
    · rename_i hc
      cases e
      have := hrw.lt k hc.2
      exact ⟨rfl, by simpa using this⟩
    · rw [labNone hlt hk] at e; cases e

set_option maxHeartbeats 4000000 in
set_option maxRecDepth 100000 in
theorem give_leaf {s : Int} {cv : Nat → Int} (hp : CB w p 18 c) (h13 : c 13 = sv) (h : SPR w L sv sp) (hlt : ∀ k, L k ≠ none → k < w.heap.size) (hL : L p = some .own) {j : Nat} {r : Bool} {n : Nat} (hg : L g = some (.lf j r n)) (hlf : LF w g s cv) :
    Calls Tryz.prog 146 #[.pointer (some ⟨p, 13, none⟩), .pointer (some ⟨g, 0, none⟩)] w fun e w' => e = .returned (.tuple #[]) ∧ GV p L c g w w' := by
  have k13 := hp.cell 13 (by omega)
  rw [h13] at k13
  have plt := hp.lt
  obtain ⟨a, cap, ev, hlc, hcm, hnil, hsome⟩ := h.rw.form
  have hll := h.len
  by_cases hlen : sp.length < 1024
  · obtain ⟨v', w1, hr, q1, q2, q3, q4, q5⟩ := sp_more h.rw g (by omega)
    obtain ⟨a', cap', ev', _, _, _, _⟩ := q1.form
    subst ev'
    have HE := hid (gv_more hp h hlt hL hg hlf hlen _ q1 q2 q3 q4 q5)
    have hpk : w1.heap[p]? = w.heap[p]? := by
      rw [q4.block p (by simp; omega) (fun e => by have := h.lab p e.symm; rw [hL] at this; cases this)]
      exact Below.heap_alloc _ _ _ plt
    have hp1 := hp.kept hpk
    have d13 := hp1.cell 13 (by omega)
    have z13 := hp1.froz 13
    have l13 := hp1.lt
    rw [ev] at k13 hr
    have HR := hid hr
    have hl2 : (sp.length : Int) < 1024 := by omega
    clear h hp hlt hL hg hlf hnil hsome q1 q2 q3 q4 q5 hr hpk hp1
    go_enter Tryz.func146, Tryz.ntmps146
    go_wp2_with (at_builtin; refine wpList_app _ rfl _ _ _ _ rfl _ _ rfl rfl _ w1 HR.out ?_)
    go_end0
    exact ⟨rfl, HE.out⟩
  · have HE := hid (gv_full hp h13 h hlt hg)
    rw [ev] at k13
    have hl2 : 1024 ≤ (sp.length : Int) := by omega
    clear h hp hlt hL hg hlf hnil hsome
    go_enter Tryz.func146, Tryz.ntmps146
    go_wp2
    go_end0
    exact ⟨rfl, HE.out⟩
end
end Go.Proofs.YtoidddfpekbliaaGreat
namespace Go.Proofs.YtoidddfpekbliaaGreat
set_option linter.unusedSimpArgs false
set_option linter.unusedVariables false
open Go.RowKit
attribute [local go_sem ↓] Go.wp_at_zero Go.wp_at_succ

/-! ### a map from words to pointers is gone through -/

theorem ranges_of2 {H : Type} {P : Program} {k : TypeId} {R : Value → Option (DataW H × List MemPlace)} {w w' : World} {b r n cnt : Nat} {D : DataW H} {left : Lit → Bool} (h : w.ranges P k R b r n D left cnt) (hb : w'.heap[b]? = w.heap[b]?) (hr : w'.heap[r]? = w.heap[r]?) : w'.ranges P k R b r n D left cnt := by
  obtain ⟨es, clock, since, seen, c0, h1, F, hs, hD, h2, rest⟩ := h
  exact ⟨es, clock, since, seen, c0, hb.trans h1, F, hs, hD, hr.trans h2, rest⟩

def RGm (u : World) (f : Nat → Option Nat) (mo : Option Nat) (r : Nat) (left : Lit → Bool) (cnt : Nat) : Prop :=
  (mo = none ∧ u.heap[r]? = some (.mapIter none 0 #[] 0) ∧ ∀ kl, left kl = false) ∨ ∃ b n D, mo = some b ∧ u.ranges Tryz.prog 184 rawElem b r n D left cnt ∧
    ∀ k : Nat, k < 18446744073709551616 → Maps.has D (.int .u64 k) = (f k).isSome ∧ ∀ g, f k = some g → D.atKey (.int .u64 k) (.held (.pointer none)) = .held (pv (some g))
def rgmLeft (u : World) (mo : Option Nat) (r : Nat) : Nat := match mo with | none => 0 | some b => u.rangeLeft b r
theorem RGm.kept {u u' : World} {f : Nat → Option Nat} {mo : Option Nat} {r : Nat} {left : Lit → Bool} {cnt : Nat} (h : RGm u f mo r left cnt) (hb : ∀ b, mo = some b → u'.heap[b]? = u.heap[b]?) (hr : u'.heap[r]? = u.heap[r]?) : RGm u' f mo r left cnt ∧ rgmLeft u' mo r = rgmLeft u mo r := by
  rcases h with ⟨rfl, h1, h2⟩ | ⟨b, n, D, rfl, hrg, hf⟩
  · exact ⟨.inl ⟨rfl, hr.trans h1, h2⟩, rfl⟩
  · have hrg' := ranges_of2 hrg (hb b rfl) hr
    exact ⟨.inr ⟨b, n, D, rfl, hrg', hf⟩, by show World.rangeLeft _ _ _ = World.rangeLeft _ _ _; rw [hrg'.left_eq, hrg.left_eq]⟩

theorem run_next_nil2 (w : World) (r : Nat) (ty : TypeId) (h : w.heap[r]? = some (.mapIter none 0 #[] 0)) : (Instr.next (.pointer (some ⟨r, 0, none⟩)) false ty).run Tryz.prog w = .ok (.tuple #[.bool false]) w := by
  simp only [Instr.next, getObj, Sem.run_bind, Sem.run, h, Result.andThen]
  rfl

theorem wpList_range_m (W : World) {ops : Array Oper} {rest : List Oper} {o : Oper} {a : Act} {Q : Exit → Act → World → Prop} (hg : o.guard = none) (m : Operand) (hop : o.op = Op.range 165 m) {mo : Option Nat} {N : Nat} {f : Nat → Option Nat} (h : MP 184 W mo N f) (hm : a.eval m = .map mo)
    (hK : ∀ w' left cnt, RGm w' f mo W.heap.size left cnt → (∀ k : Nat, k < 18446744073709551616 → left (.int .u64 k) = (f k).isSome) → Tn No W w' → w'.heap.size = W.heap.size + 1 → wpList Tryz.prog ops Q rest (a.put o.dst (.pointer (some ⟨W.heap.size, 0, none⟩))) w') :
    wpList Tryz.prog ops Q (o :: rest) a W := by
  rcases h with ⟨rfl, hf⟩ | ⟨b, n, D, rfl, hn, hown, hf⟩
  · refine wpList_plain hg fun K' hK' => ?_
    have hrun := run_range_nilMap (P := Tryz.prog) W 165 184 163 Tryz.underlying165
    unfold Oper.wp
    simp [execOp, hop, hm, hrun, Result.andThen]
    exact hK' _ _ (hK (W.alloc (.mapIter none 0 #[] 0)) (fun _ => false) 0 (.inl ⟨rfl, heap_alloc_new _ _, fun _ => rfl⟩) (fun k _ => by rw [hf k]; rfl) ((Tn.refl No W).alloc _) (by simp))
  · refine wpList_range_own W hg m 165 hop 184 163 (Maps.int_keyed Tryz.underlying184) Tryz.underlying165 rawElem b n D hm hown (fun w' h1 h2 h3 => hK w' _ _ (.inr ⟨b, n, D, rfl, h1, hf⟩) (fun k hk => (hf k hk).1) ⟨h2.os, h2.tape, h2.output, h2.size, fun k hk _ => h2.block k hk (by simp)⟩ h3)

theorem wpList_next_m (wr : World) {ops : Array Oper} {rest : List Oper} {o : Oper} {a : Act} {Q : Exit → Act → World → Prop} (hg : o.guard = none) (it : Operand) (hop : o.op = Op.next it false) {f : Nat → Option Nat} {mo : Option Nat} {r cnt : Nat} {left : Lit → Bool} (h : RGm wr f mo r left cnt) (hit : a.eval it = .pointer (some ⟨r, 0, none⟩))
    (hDone : (∀ kl, left kl = false) → wpList Tryz.prog ops Q rest (a.put o.dst (.tuple #[.bool false])) wr)
    (hMore : ∀ (k g : Nat) (w' : World) (cnt' : Nat), k < 18446744073709551616 → f k = some g → left (.int .u64 k) = true → RGm w' f mo r (fun z => left z && !z.sameKey (.int .u64 k)) cnt' → rgmLeft w' mo r < rgmLeft wr mo r → wr.grownBy w' (some r) → w'.heap.size = wr.heap.size →
      (Instr.entry (.pointer (some ⟨r, 0, none⟩))).run Tryz.prog w' = .ok (.tuple #[.int .u64 k, .pointer (some ⟨g, 0, none⟩)]) w' → wpList Tryz.prog ops Q rest (a.put o.dst (.tuple #[.bool true, .int .u64 k, .pointer (some ⟨g, 0, none⟩)])) w') :
    wpList Tryz.prog ops Q (o :: rest) a wr := by
  rcases h with ⟨rfl, h1, h2⟩ | ⟨b, n, D, rfl, hrg, hf⟩
  · refine wpList_plain hg fun K' hK' => ?_
    have hrun := fun ty => run_next_nil2 wr r ty h1
    unfold Oper.wp
    simp [execOp, hop, hit, hrun, Result.andThen]
    exact hK' _ _ (hDone h2)
  · refine wpList_next_ranges wr hg it hop 184 (Maps.int_keyed Tryz.underlying184) rawElem (fun x : Int => Value.int .u64 x) (fun v : Value => v) (fun key kl hk => by
      obtain ⟨x, e, _⟩ := Maps.keyOf_int_inv Tryz.underlying184 hk
      exact ⟨_, e⟩) (fun v y hv => ⟨v, rfl⟩) b r n D left cnt hit hrg (fun _ hl => hDone hl) (fun x v kl y w' cnt' hkey hlk hv hat hrg' hlt hgr hsz hen => ?_)
    obtain ⟨x', ex, rfl, hxw⟩ := Maps.keyOf_int_inv Tryz.underlying184 hkey
    cases ex
    have hb := bounds_u64 hxw
    obtain ⟨k, rfl⟩ : ∃ k : Nat, x = k := ⟨x.toNat, by omega⟩
    have hk : k < 18446744073709551616 := by omega
    simp only [rawElem, Option.some.injEq] at hv
    have hat' : ∀ zd, D.atKey (.int .u64 k) zd = .held v := fun zd => by rw [hat zd, ← hv]
    have hhas : Maps.has D (.int .u64 k) = true := Maps.has_true_of_atKey hat'
    rw [(hf k hk).1] at hhas
    obtain ⟨g, hg'⟩ := Option.isSome_iff_exists.1 hhas
    have e1 := (hf k hk).2 g hg'
    have : v = .pointer (some ⟨g, 0, none⟩) := by
      have := e1.symm.trans (hat' (.held (.pointer none)))
      cases this; rfl
    subst this
    refine hMore k g w' cnt' hk hg' hlk (.inr ⟨b, n, D, rfl, hrg', hf⟩) ?_ hgr hsz hen
    show World.rangeLeft _ _ _ < World.rangeLeft _ _ _
    rw [hrg'.left_eq, hrg.left_eq]
    exact hlt

/-! ### what has been cleared so far -/

structure CX (p b K j : Nat) (r : Bool) (near mo : Option Nat) (lvs : Nat → Option Nat) (R : Nat → Prop) (nk : Nat) (ro : Option Nat) (fc c : Nat → Value) (w : World) (L : Nat → Option Lb) (u : World) (L' : Nat → Option Lb) (sv' : Value) (sp' : List Nat) : Prop where
  sp : SPR u L' sv' sp'
  pc : CB u p 18 (upd c 13 sv')
  fb : CB u b K fc
  lv : ∀ n g, lvs n = some g → R n → L' g = some (.lf j r n) ∧ ∃ s cv, LF u g s cv
  nr : ∀ g, near = some g → L' g = some (.nr j r) ∧ CB u g 64 (fun i => pv (if i = 0 ∨ i < nk then none else lvs i))
  mp : ∀ bm, mo = some bm → u.heap[bm]? = w.heap[bm]? ∧ L' bm = some (.fm j r)
  lp : L' p = some .own
  lb : L' b = some .row
  it : ∀ q, ro = some q → L' q = none ∧ w.heap.size ≤ q ∧ q < u.heap.size
  lq : Lq (fun k => k = p ∨ k = b) (Lb.isPut j r) w L u L'
def CS (p b K j : Nat) (r : Bool) (near mo : Option Nat) (lvs : Nat → Option Nat) (R : Nat → Prop) (nk : Nat) (ro : Option Nat) (fc c : Nat → Value) (w : World) (L : Nat → Option Lb) (u : World) : Prop :=
  ∃ L' sv' sp', CX p b K j r near mo lvs R nk ro fc c w L u L' sv' sp'

section
variable {p b K j : Nat} {r : Bool} {near mo : Option Nat} {lvs : Nat → Option Nat} {R R' : Nat → Prop} {nk : Nat} {ro : Option Nat} {fc c : Nat → Value} {w : World} {L : Nat → Option Lb} {u : World}

theorem CS.less (h : CS p b K j r near mo lvs R nk ro fc c w L u) (hR : ∀ n, lvs n ≠ none → R' n → R n) : CS p b K j r near mo lvs R' nk ro fc c w L u := by
  obtain ⟨L', sv', sp', h⟩ := h
  exact ⟨L', sv', sp', { h with lv := fun n g e q => h.lv n g e (hR n (by rw [e]; simp) q) }⟩

/-- nothing of it has turned -/
theorem CS.no {u' : World} (h : CS p b K j r near mo lvs R nk ro fc c w L u) (t : Tn No u u') : CS p b K j r near mo lvs R nk ro fc c w L u' := by
  obtain ⟨L', sv', sp', h⟩ := h
  have hk : ∀ k l, L' k = some l → u'.heap[k]? = u.heap[k]? := fun k l e => t.block k (h.lq.new k l e).1 (fun e => e)
  refine ⟨L', sv', sp', ⟨h.sp.kept (fun k e => by rcases e with e | ⟨i, e⟩ <;> exact hk k _ e) (fun _ _ => rfl), h.pc.kept (hk p _ h.lp), h.fb.kept (hk b _ h.lb), fun n g e q => ?_, fun g e => ⟨(h.nr g e).1, (h.nr g e).2.kept (hk g _ (h.nr g e).1)⟩, fun bm e => ⟨(hk bm _ (h.mp bm e).2).trans (h.mp bm e).1, (h.mp bm e).2⟩, h.lp, h.lb, fun q e => ⟨(h.it q e).1, (h.it q e).2.1, Nat.lt_of_lt_of_le (h.it q e).2.2 t.size⟩, ?_⟩⟩
  · obtain ⟨h1, s, cv, h2⟩ := h.lv n g e q
    exact ⟨h1, s, cv, h2.kept (hk g _ h1)⟩
  · exact ⟨h.lq.tn.thenNo t, h.lq.old, fun k l e => ⟨Nat.lt_of_lt_of_le (h.lq.new k l e).1 t.size, (h.lq.new k l e).2⟩, h.lq.non⟩

/-- one leaf is given -/
theorem CS.gives {n g : Nat} (h : CS p b K j r near mo lvs R nk ro fc c w L u) (hpb : p ≠ b) (hpw : p < w.heap.size) (hg : lvs n = some g) (hn : R n) :
    Calls Tryz.prog 146 #[.pointer (some ⟨p, 13, none⟩), .pointer (some ⟨g, 0, none⟩)] u fun e u' => e = .returned (.tuple #[]) ∧ CS p b K j r near mo lvs (fun m => R m ∧ m ≠ n) nk ro fc c w L u' ∧ (∀ q, ro = some q ∨ mo = some q → u'.heap[q]? = u.heap[q]?) := by
  obtain ⟨L', sv', sp', h⟩ := h
  obtain ⟨hgl, s, cv, hlf⟩ := h.lv n g hg hn
  refine (give_leaf h.pc (upd_same _ _ _) h.sp h.lq.lt h.lp hgl hlf).mono ?_
  rintro e u' ⟨rfl, sv2, sp2, L2, g1, g2, g3, g4, g5, g6⟩
  have hglt := h.lq.lt g (by rw [hgl]; simp)
  have keep : ∀ k l, L' k = some l → l ≠ .own → l ≠ .spr → u'.heap[k]? = u.heap[k]? := fun k l e h1 h2 => g3.block k (h.lq.lt k (by rw [e]; simp)) (by
    rintro (rfl | e')
    · rw [h.lp] at e; cases e; exact h1 rfl
    · rw [e] at e'; cases e'; exact h2 rfl)
  have lab : ∀ k l, L' k = some l → k ≠ g → L2 k = some l := fun k l e hne => by rw [g4 k hne (h.lq.lt k (by rw [e]; simp))]; exact e
  refine ⟨rfl, ⟨L2, sv2, sp2, ⟨g1, g2.congr (fun i _ => ?_), h.fb.kept (keep b _ h.lb (by simp) (by simp)), fun m k e q => ?_, fun k e => ?_, fun bm e => ?_, lab p _ h.lp (by rintro rfl; rw [h.lp] at hgl; cases hgl), lab b _ h.lb (by rintro rfl; rw [h.lb] at hgl; cases hgl), fun q e => ?_, ?_⟩⟩, fun q e => ?_⟩
  · by_cases e : i = 13
    · subst e; rw [upd_same, upd_same]
    · rw [upd_other _ _ e, upd_other _ _ e, upd_other _ _ e]
  · obtain ⟨q1, s', cv', q2⟩ := h.lv m k e q.1
    have hkg : k ≠ g := by rintro rfl; rw [hgl] at q1; cases q1; exact q.2 rfl
    exact ⟨lab k _ q1 hkg, s', cv', q2.kept (keep k _ q1 (by simp) (by simp))⟩
  · obtain ⟨q1, q2⟩ := h.nr k e
    exact ⟨lab k _ q1 (by rintro rfl; rw [hgl] at q1; cases q1), q2.kept (keep k _ q1 (by simp) (by simp))⟩
  · obtain ⟨q1, q2⟩ := h.mp bm e
    exact ⟨(keep bm _ q2 (by simp) (by simp)).trans q1, lab bm _ q2 (by rintro rfl; rw [hgl] at q2; cases q2)⟩
  · obtain ⟨q1, q2, q3⟩ := h.it q e
    exact ⟨by rw [g4 q (by rintro rfl; rw [hgl] at q1; cases q1) q3]; exact q1, q2, Nat.lt_of_lt_of_le q3 g3.size⟩
  · refine h.lq.trans ⟨g3.mono (fun k _ e => ?_), fun k l e hP => lab k l e (by rintro rfl; rw [hgl] at e; cases e; exact hP (.inl ⟨rfl, rfl⟩)), fun k l e => ?_, fun k hk e => ?_⟩
    · rcases e with e | e
      · exact .inl (.inl e)
      · exact .inr ⟨_, e, .inr (.inl rfl)⟩
    · by_cases hk : k < u.heap.size
      · by_cases e' : k = g
        · subst e'
          rcases g5 with q | ⟨i, q⟩
          · rw [q] at e; cases e
          · rw [q] at e; cases e; exact ⟨Nat.lt_of_lt_of_le hk g3.size, .inl (.inr (.inr ⟨i, rfl⟩))⟩
        · rw [g4 k e' hk] at e; exact ⟨Nat.lt_of_lt_of_le hk g3.size, .inr e⟩
      · obtain ⟨q1, q2⟩ := g6 k l (by omega) e
        exact ⟨q2, .inl (.inr (.inl q1))⟩
    · rw [g4 k (by rintro rfl; rw [hgl] at e; cases e) hk]; exact e
  · rcases e with e | e
    · obtain ⟨q1, q2, q3⟩ := h.it q e
      exact g3.block q q3 (by rintro (rfl | e'); omega; (rw [q1] at e'; cases e'))
    · exact keep q _ (h.mp q e).2 (by simp) (by simp)

/-- a place of the list is emptied -/
theorem CS.setNear {g : Nat} (h : CS p b K j r near mo lvs R nk ro fc c w L u) (hn : near = some g) (hk : nk < 64) : CS p b K j r near mo lvs R (nk + 1) ro fc c w L (u.setCell ⟨g, nk, none⟩ (.pointer none)) := by
  obtain ⟨L', sv', sp', h⟩ := h
  obtain ⟨q1, q2⟩ := h.nr g hn
  have keep : ∀ k, k ≠ g → (u.setCell ⟨g, nk, none⟩ (.pointer none)).heap[k]? = u.heap[k]? := fun k hk => Below.heap_setCell _ _ _ _ hk
  have keepl : ∀ k l, L' k = some l → (∀ j r, l ≠ .nr j r) → (u.setCell ⟨g, nk, none⟩ (.pointer none)).heap[k]? = u.heap[k]? := fun k l e hne => keep k (by rintro rfl; rw [q1] at e; cases e; exact hne _ _ rfl)
  refine ⟨L', sv', sp', ⟨h.sp.kept (fun k e => by rcases e with e | ⟨i, e⟩ <;> exact keepl k _ e (by simp)) (fun _ _ => rfl), h.pc.kept (keepl p _ h.lp (by simp)), h.fb.kept (keepl b _ h.lb (by simp)), fun n k e q => ?_, fun k e => ?_, fun bm e => ⟨(keepl bm _ (h.mp bm e).2 (by simp)).trans (h.mp bm e).1, (h.mp bm e).2⟩, h.lp, h.lb, fun q e => ⟨(h.it q e).1, (h.it q e).2.1, by simpa using (h.it q e).2.2⟩, ?_⟩⟩
  · obtain ⟨r1, s, cv, r2⟩ := h.lv n k e q
    exact ⟨r1, s, cv, r2.kept (keepl k _ r1 (by simp))⟩
  · rw [hn] at e; cases e
    refine ⟨q1, (q2.set nk hk _).congr (fun i hi => ?_)⟩
    by_cases e : i = nk
    · subst e; rw [upd_same, if_pos (by omega)]; rfl
    · rw [upd_other _ _ e]
      by_cases e2 : i = 0 ∨ i < nk
      · rw [if_pos e2, if_pos (by omega)]
      · rw [if_neg e2, if_neg (by omega)]
  · exact h.lq.trans ⟨Tn.set (Tn.refl _ _) _ _ (fun _ => .inr ⟨_, q1, .inl ⟨rfl, rfl⟩⟩), fun _ _ e _ => e, fun k l e => ⟨by simpa using (h.lq.new k l e).1, .inr e⟩, fun _ _ e => e⟩

/-- a cell of the row is set -/
theorem CS.setRow (h : CS p b K j r near mo lvs R nk ro fc c w L u) (i : Nat) (hi : i < K) (v : Value) : CS p b K j r near mo lvs R nk ro (upd fc i v) c w L (u.setCell ⟨b, i, none⟩ v) := by
  obtain ⟨L', sv', sp', h⟩ := h
  have keepl : ∀ k l, L' k = some l → l ≠ .row → (u.setCell ⟨b, i, none⟩ v).heap[k]? = u.heap[k]? := fun k l e hne => Below.heap_setCell _ _ _ _ (by intro e'; simp only at e'; subst e'; rw [h.lb] at e; cases e; exact hne rfl)
  refine ⟨L', sv', sp', ⟨h.sp.kept (fun k e => by rcases e with e | ⟨i, e⟩ <;> exact keepl k _ e (by simp)) (fun _ _ => rfl), h.pc.kept (keepl p _ h.lp (by simp)), h.fb.set i hi v, fun n k e q => ?_, fun k e => ⟨(h.nr k e).1, (h.nr k e).2.kept (keepl k _ (h.nr k e).1 (by simp))⟩, fun bm e => ⟨(keepl bm _ (h.mp bm e).2 (by simp)).trans (h.mp bm e).1, (h.mp bm e).2⟩, h.lp, h.lb, fun q e => ⟨(h.it q e).1, (h.it q e).2.1, by simpa using (h.it q e).2.2⟩, ?_⟩⟩
  · obtain ⟨r1, s, cv, r2⟩ := h.lv n k e q
    exact ⟨r1, s, cv, r2.kept (keepl k _ r1 (by simp))⟩
  · exact h.lq.trans ⟨Tn.set (Tn.refl _ _) _ _ (fun _ => .inl (.inr rfl)), fun _ _ e _ => e, fun k l e => ⟨by simpa using (h.lq.new k l e).1, .inr e⟩, fun _ _ e => e⟩

/-- only the loop's own block has turned -/
theorem CS.iter {u' : World} {q : Nat} (h : CS p b K j r near mo lvs R nk (some q) fc c w L u) (t : Tn (fun k => k = q) u u') : CS p b K j r near mo lvs R nk (some q) fc c w L u' := by
  obtain ⟨L', sv', sp', h⟩ := h
  obtain ⟨i1, i2, i3⟩ := h.it q rfl
  have hk : ∀ k l, L' k = some l → u'.heap[k]? = u.heap[k]? := fun k l e => t.block k (h.lq.new k l e).1 (by rintro rfl; rw [i1] at e; cases e)
  refine ⟨L', sv', sp', ⟨h.sp.kept (fun k e => by rcases e with e | ⟨i, e⟩ <;> exact hk k _ e) (fun _ _ => rfl), h.pc.kept (hk p _ h.lp), h.fb.kept (hk b _ h.lb), fun n g e q => ?_, fun g e => ⟨(h.nr g e).1, (h.nr g e).2.kept (hk g _ (h.nr g e).1)⟩, fun bm e => ⟨(hk bm _ (h.mp bm e).2).trans (h.mp bm e).1, (h.mp bm e).2⟩, h.lp, h.lb, fun q e => ⟨(h.it q e).1, (h.it q e).2.1, Nat.lt_of_lt_of_le (h.it q e).2.2 t.size⟩, ?_⟩⟩
  · obtain ⟨h1, s, cv, h2⟩ := h.lv n g e q
    exact ⟨h1, s, cv, h2.kept (hk g _ h1)⟩
  · exact ⟨h.lq.tn.trans t (fun _ _ e => e) (fun i hi e => by omega), h.lq.old, fun k l e => ⟨Nat.lt_of_lt_of_le (h.lq.new k l e).1 t.size, (h.lq.new k l e).2⟩, h.lq.non⟩

/-- the loop over the map begins -/
theorem CS.begin {u' : World} (h : CS p b K j r near mo lvs R nk none fc c w L u) (t : Tn No u u') (hs : u.heap.size < u'.heap.size) : CS p b K j r near mo lvs R nk (some u.heap.size) fc c w L u' := by
  have h2 := h.no t
  obtain ⟨L', sv', sp', h⟩ := h
  have hk : ∀ k l, L' k = some l → u'.heap[k]? = u.heap[k]? := fun k l e => t.block k (h.lq.new k l e).1 (fun e => e)
  refine ⟨L', sv', sp', ⟨h.sp.kept (fun k e => by rcases e with e | ⟨i, e⟩ <;> exact hk k _ e) (fun _ _ => rfl), h.pc.kept (hk p _ h.lp), h.fb.kept (hk b _ h.lb), fun n g e q => ?_, fun g e => ⟨(h.nr g e).1, (h.nr g e).2.kept (hk g _ (h.nr g e).1)⟩, fun bm e => ⟨(hk bm _ (h.mp bm e).2).trans (h.mp bm e).1, (h.mp bm e).2⟩, h.lp, h.lb, fun q e => ?_, ?_⟩⟩
  · obtain ⟨h1, s, cv, h2⟩ := h.lv n g e q
    exact ⟨h1, s, cv, h2.kept (hk g _ h1)⟩
  · cases e
    exact ⟨labNone h.lq.lt (Nat.le_refl _), h.lq.tn.size, hs⟩
  · exact ⟨h.lq.tn.thenNo t, h.lq.old, fun k l e => ⟨Nat.lt_of_lt_of_le (h.lq.new k l e).1 t.size, (h.lq.new k l e).2⟩, h.lq.non⟩
theorem CS.end (h : CS p b K j r near mo lvs R nk ro fc c w L u) : CS p b K j r near mo lvs R nk none fc c w L u := by
  obtain ⟨L', sv', sp', h⟩ := h
  exact ⟨L', sv', sp', { h with it := fun q e => by cases e }⟩

variable {o : Nat} {N : Nat} {first : Option Nat} {B : Nat → Option Int} {sv : Value} {sp : List Nat}

theorem cs_start (h : BK w L j r N first near mo lvs B) (hcb : CB w b K fc) (hs : SPR w L sv sp) (hp : CB w p 18 c) (h13 : c 13 = sv) (hLb : L b = some .row) (hLp : L p = some .own) (hlt : ∀ k, L k ≠ none → k < w.heap.size) :
    CS p b K j r near mo lvs (fun _ => True) 0 none fc c w L w := by
  refine ⟨L, sv, sp, ⟨hs, by rw [← h13, upd_self]; exact hp, hcb, fun n g e _ => ?_, fun g e => ⟨(h.nr g e).1, (h.nr g e).2.congr (fun i _ => by simp)⟩, fun bm e => ⟨rfl, h.labf bm e⟩, hLp, hLb, fun q e => (by cases e), Lq.refl _ _ _ _ hlt⟩⟩
  obtain ⟨h1, s, cv, h2, _⟩ := h.lf n g e
  exact ⟨h1, s, cv, h2⟩

theorem cs_done (h : CS p b K j r near mo lvs R nk none (bcs fc o none near none) c w L u) (hn : near = none ∨ nk = 64) : PT p b o K L j r N (fun _ => none) fc c w u := by
  obtain ⟨L', sv', sp', h⟩ := h
  refine ⟨L', none, near, none, fun _ => none, sv', sp', ⟨rfl, fun g e => ⟨(h.nr g e).1, (h.nr g e).2.congr (fun i hi => ?_)⟩, fun _ _ _ _ => rfl, .inl ⟨rfl, fun k => by simp⟩, fun _ e => (by cases e), fun _ _ e => (by cases e), fun _ _ _ _ => rfl, fun _ _ e => (by cases e)⟩, h.fb, h.sp, h.pc, h.lq⟩
  rcases hn with e' | e'
  · rw [e'] at e; cases e
  · rw [if_pos (by omega)]; simp

/-- give of a pointer that may be nil -/
theorem CS.givesAny (h : CS p b K j r near mo lvs R nk ro fc c w L u) (hpb : p ≠ b) (hpw : p < w.heap.size) (n : Nat) (x : Option Nat) (hx : x = none ∧ lvs n = none ∨ x = none ∧ ¬ R n ∨ x = lvs n ∧ R n) :
    Calls Tryz.prog 146 #[.pointer (some ⟨p, 13, none⟩), pv x] u fun e u' => e = .returned (.tuple #[]) ∧ CS p b K j r near mo lvs (fun m => R m ∧ m ≠ n) nk ro fc c w L u' := by
  cases x with
  | none =>
    refine (give_nil u).mono ?_
    rintro e u' ⟨rfl, rfl⟩
    refine ⟨rfl, h.less (fun m _ q => q.1)⟩
  | some g =>
    rcases hx with ⟨e, _⟩ | ⟨e, _⟩ | ⟨e, hR⟩
    · cases e
    · cases e
    · exact (h.gives hpb hpw e.symm hR).mono (fun e u' q => ⟨q.1, q.2.1⟩)

theorem CS.cellb (h : CS p b K j r near mo lvs R nk ro fc c w L u) (i : Nat) (hi : i < K) : u.cell? ⟨b, i, none⟩ = some (fc i) ∧ u.frozen? ⟨b, i, none⟩ = false ∧ b < u.heap.size := by
  obtain ⟨L', sv', sp', h⟩ := h
  exact ⟨h.fb.cell i hi, h.fb.froz i, h.fb.lt⟩
theorem CS.celln {g : Nat} (h : CS p b K j r near mo lvs R nk ro fc c w L u) (hn : near = some g) (i : Nat) (hi : i < 64) : u.cell? ⟨g, i, none⟩ = some (pv (if i = 0 ∨ i < nk then none else lvs i)) ∧ u.frozen? ⟨g, i, none⟩ = false ∧ g < u.heap.size := by
  obtain ⟨L', sv', sp', h⟩ := h
  exact ⟨(h.nr g hn).2.cell i hi, (h.nr g hn).2.froz i, (h.nr g hn).2.lt⟩
end
end Go.Proofs.YtoidddfpekbliaaGreat
namespace Go.Proofs.YtoidddfpekbliaaGreat
set_option linter.unusedSimpArgs false
set_option linter.unusedVariables false
open Go.RowKit
attribute [local go_sem ↓] Go.wp_at_zero Go.wp_at_succ

section
variable {p b K j : Nat} {r : Bool} {near mo : Option Nat} {lvs : Nat → Option Nat} {fc c : Nat → Value} {w : World} {L : Nat → Option Lb}
variable {o : Nat} {N : Nat} {first : Option Nat} {B : Nat → Option Int} {sv : Value} {sp : List Nat}

theorem bcs_bcs (x y z x' y' z' : Option Nat) (i : Nat) : bcs (bcs fc o x y z) o x' y' z' i = bcs fc o x' y' z' i := by
  simp only [bcs]
  split
  · rfl
  · split
    · rfl
    · split <;> rfl

set_option maxHeartbeats 8000000 in
set_option maxRecDepth 100000 in
theorem clear_bank (h : BK w L j r N first near mo lvs B) (hcb : CB w b K fc) (hc : ∀ i, fc i = bcs fc o first near mo i) (ho : o + 2 < K) (hs : SPR w L sv sp) (hp : CB w p 18 c) (h13 : c 13 = sv) (hLb : L b = some .row) (hLp : L p = some .own) (hlt : ∀ k, L k ≠ none → k < w.heap.size) :
    Calls Tryz.prog 121 #[.pointer (some ⟨b, o, none⟩), .pointer (some ⟨p, 13, none⟩)] w fun e w' => e = .returned (.tuple #[]) ∧ PT p b o K L j r N (fun _ => none) fc c w w' := by
  have hpb : p ≠ b := by rintro rfl; rw [hLp] at hLb; cases hLb
  have c0 := hcb.cell o (by omega)
  rw [hc] at c0
  simp only [bcs, if_true] at c0
  have st := cs_start h hcb hs hp h13 hLb hLp hlt
  have HG := hid (st.givesAny hpb hp.lt 0 first (.inr (.inr ⟨h.f0.symm, trivial⟩)))
  have HFC : Hid (∀ u, CS p b K j r near mo lvs (fun m => True ∧ m ≠ 0) 0 none fc c w L u → CS p b K j r near mo lvs (fun m => 1 ≤ m) 0 none (bcs fc o none near mo) c w L (u.setCell ⟨b, o, none⟩ (.pointer none))) := by
    intro u h1
    have h2 := (h1.less (R' := fun m => 1 ≤ m) (fun m _ hm => ⟨trivial, by omega⟩)).setRow o (by omega) (.pointer none)
    have e : upd fc o (.pointer none) = bcs fc o none near mo := funext (fun i => bcs_first hc none i)
    rw [e] at h2
    exact h2
  have HU : Hid (∀ u, CS p b K j r near mo lvs (fun m => True ∧ m ≠ 0) 0 none fc c w L u → (∃ v, u.cell? ⟨b, o, none⟩ = some v) ∧ u.frozen? ⟨b, o, none⟩ = false ∧ b < u.heap.size ∧ u.cell? ⟨b, o + 1, none⟩ = some (pv near) ∧ u.cell? ⟨b, o + 2, none⟩ = some (.map mo) ∧ u.frozen? ⟨b, o + 2, none⟩ = false) := by
    intro u h1
    obtain ⟨q1, q2, q3⟩ := h1.cellb o (by omega)
    obtain ⟨r1, _, _⟩ := h1.cellb (o + 1) (by omega)
    obtain ⟨s1, s2, _⟩ := h1.cellb (o + 2) (by omega)
    rw [hc] at r1 s1
    simp only [bcs, if_true, show ¬ (o + 1 = o) by omega, show ¬ (o + 2 = o) by omega, show ¬ (o + 2 = o + 1) by omega, if_false] at r1 s1
    exact ⟨⟨_, q1⟩, q2, q3, r1, s1, s2⟩
  have HMP := hid h.far
  have HNN := hid h.nn
  have hpw := hp.lt
  have HMPU : Hid (∀ (R : Nat → Prop) u (nk : Nat), CS p b K j r near mo lvs R nk none (bcs fc o none near mo) c w L u → MP 184 u mo N (fun n => if n < 64 then none else lvs n)) := by
    rintro R u nk ⟨L', sv', sp', q⟩
    exact HMP.out.kept (fun bm e => (q.mp bm e).1)
  clear h hcb hc hs hp hlt st
  cases near with
  | none =>
    simp only [pv_none] at HU
    go_enter Tryz.func121, Tryz.ntmps121
    go_wp2_with (first
      | (go_at_call 146; refine HG.out.mono ?_; rintro e u ⟨rfl, hcs⟩; obtain ⟨⟨v0, b0⟩, b1, b2, b3, b4, b5⟩ := HU.out u hcs; have HC1 := hid (HFC.out u hcs); clear hcs)
      | (at_range; refine wpList_range_m _ rfl _ rfl (HMPU.out _ _ _ HC1.out) rfl ?_; intro w0 left0 cnt0 hrg0 hlf0 tn0 hs0))
    have HS0 := hid (HC1.out.begin tn0 (by omega))
    go_frame
    have eU : (u.setCell ⟨b, o, none⟩ (.pointer none)).heap.size = u.heap.size := by simp
    rw [eU] at HS0 hrg0 hs0
    try rw [eU]
    obtain ⟨q, hq⟩ : ∃ q, u.heap.size = q := ⟨_, rfl⟩
    rw [hq] at HS0 hrg0 hs0 ⊢
    have HCS0 : Hid (CS p b K j r none mo lvs (fun n => 64 ≤ n ∧ n < 18446744073709551616 ∧ left0 (.int .u64 (n : Int)) = true) 0 (some q) (bcs fc o none none mo) c w L w0) := hid (HS0.out.less (fun n _ hn => (by show 1 ≤ n; omega)))
    have HR0 := hid hrg0
    clear hrg0 hlf0 tn0 HS0
    go_loopw [7] (fun _ wr => ∃ (left : Lit → Bool) (cnt : Nat), RGm wr (fun n => if n < 64 then none else lvs n) mo q left cnt ∧ CS p b K j r none mo lvs (fun n => 64 ≤ n ∧ n < 18446744073709551616 ∧ left (.int .u64 (n : Int)) = true) 0 (some q) (bcs fc o none none mo) c w L wr) (fun _ wr => rgmLeft wr mo q)
    case atStart => exact ⟨left0, cnt0, HR0.out, HCS0.out⟩
    case round =>
      obtain ⟨left, cnt, hrg, hcs⟩ := hrel
      have HCS := hid hcs
      obtain ⟨m1, m2, m3⟩ := hcs.cellb (o + 2) (by omega)
      clear hcs HR0 HCS0
      go_wp2_with (at_next; refine wpList_next_m _ rfl _ rfl hrg rfl ?_ ?_)
      · intro hl0
        have HE := hid (cs_done (N := N) (o := o) (fc := fc) (by
          have h2 := HCS.out.end.setRow (o + 2) (by omega) (.map none)
          have e : upd (bcs fc o none none mo) (o + 2) (.map none) = bcs fc o none none none := by
            funext i
            have := bcs_far (fc := bcs fc o none none mo) (o := o) (first := none) (near := none) (mo := mo) (fun i => (bcs_bcs _ _ _ _ _ _ i).symm) none i
            rw [this, bcs_bcs]
          rw [e] at h2
          exact h2) (.inl rfl))
        clear hrg hl0 HCS
        go_wp2
        go_end0
        exact ⟨rfl, HE.out⟩
      · intro k g2 w1 cnt1 hk hk64 hf hlk hrg1 hml hg1 hs1 hen
        have hcs1 := HCS.out.iter (Tn.of_grown hg1 |>.mono (fun i _ e => by cases e; rfl))
        have HG2 := hid (hcs1.gives hpb hpw hf ⟨hk64, hk, hlk⟩)
        have HRG1 := hid hrg1
        have HML := hid hml
        have HEN := hid hen
        clear hrg hrg1 hcs1 hml hg1 HCS
        go_wp2_with (go_at_call 146; refine HG2.out.mono ?_; rintro e w2 ⟨rfl, hcs2, hkp2⟩; have HC2 := hid hcs2; have HK2 := hid hkp2; clear hcs2 hkp2)
        obtain ⟨r1, r2⟩ := HRG1.out.kept (fun bm e => HK2.out bm (.inr e)) (HK2.out q (.inl rfl))
        have HFIN := hid (HC2.out.less (R' := fun n => 64 ≤ n ∧ n < 18446744073709551616 ∧ (left (.int .u64 (n : Int)) && !(Lit.int .u64 (n : Int)).sameKey (.int .u64 (k : Int))) = true) (fun n _ hn => by
          have hn3 := hn.2.2
          rw [Bool.and_eq_true, Bool.not_eq_true'] at hn3
          refine ⟨⟨hn.1, hn.2.1, hn3.1⟩, ?_⟩
          rintro rfl
          have := hn3.2
          simp [Lit.sameKey] at this))
        have HML2 : Hid (rgmLeft w2 mo q < rgmLeft wr mo q) := hid (by rw [r2]; exact HML.out)
        refine ⟨?_, HML2.out⟩
        first
          | exact ⟨_, cnt1, r1, HFIN.out⟩
          | ((repeat apply Exists.intro); exact ⟨⟨_, cnt1, r1, HFIN.out⟩, rfl⟩)

  | some g =>
    simp only [pv_some] at HU
    have HNX : Hid (∀ (k : Nat) (u : World), k < 64 → CS p b K j r (some g) mo lvs (fun m => 1 ≤ m ∧ k ≤ m) k none (bcs fc o none (some g) mo) c w L u → ∃ x, u.cell? ⟨g, k, none⟩ = some (pv x) ∧
        Calls Tryz.prog 146 #[.pointer (some ⟨p, 13, none⟩), pv x] u fun e u' => e = .returned (.tuple #[]) ∧ u'.cell? ⟨b, o + 1, none⟩ = some (.pointer (some ⟨g, 0, none⟩)) ∧ (∃ v, u'.cell? ⟨g, k, none⟩ = some v) ∧ u'.frozen? ⟨g, k, none⟩ = false ∧ g < u'.heap.size ∧
          CS p b K j r (some g) mo lvs (fun m => 1 ≤ m ∧ k + 1 ≤ m) (k + 1) none (bcs fc o none (some g) mo) c w L (u'.setCell ⟨g, k, none⟩ (.pointer none))) := by
      intro k u hk hcs
      obtain ⟨q1, _, _⟩ := hcs.celln rfl k hk
      refine ⟨_, q1, (hcs.givesAny hpb hpw k _ ?_).mono ?_⟩
      · by_cases e : k = 0
        · exact .inr (.inl ⟨by simp [e], by omega⟩)
        · exact .inr (.inr ⟨by simp [e], by omega, Nat.le_refl _⟩)
      · rintro e u' ⟨rfl, hcs'⟩
        obtain ⟨r1, _, _⟩ := hcs'.cellb (o + 1) (by omega)
        simp only [bcs, if_true, show ¬ (o + 1 = o) by omega, if_false, pv_some] at r1
        obtain ⟨s1, s2, s3⟩ := hcs'.celln rfl k hk
        exact ⟨rfl, r1, ⟨_, s1⟩, s2, s3, (hcs'.setNear rfl hk).less (fun m _ hm => by omega)⟩
    have HFR : Hid (∀ u, CS p b K j r (some g) mo lvs (fun m => 1 ≤ m ∧ 64 ≤ m) 64 none (bcs fc o none (some g) mo) c w L u → u.cell? ⟨b, o + 2, none⟩ = some (.map mo) ∧ u.frozen? ⟨b, o + 2, none⟩ = false ∧ b < u.heap.size) := by
      intro u hcs
      obtain ⟨r1, r2, r3⟩ := hcs.cellb (o + 2) (by omega)
      simp only [bcs, if_true, show ¬ (o + 2 = o) by omega, show ¬ (o + 2 = o + 1) by omega, if_false] at r1
      exact ⟨r1, r2, r3⟩
    go_enter Tryz.func121, Tryz.ntmps121
    go_wp2_with (go_at_call 146; refine HG.out.mono ?_; rintro e u ⟨rfl, hcs⟩; obtain ⟨⟨v0, b0⟩, b1, b2, b3, b4, b5⟩ := HU.out u hcs; have HC1 := hid (HFC.out u hcs); clear hcs)
    clear HG HFC HU
    go_loopw [26] (fun i wr => ∃ k : Nat, k ≤ 64 ∧ i = .int .i64 (k : Int) ∧ CS p b K j r (some g) mo lvs (fun m => 1 ≤ m ∧ k ≤ m) k none (bcs fc o none (some g) mo) c w L wr) (fun i _ => 64 - (intOf i).toNat)
    case atStart => exact ⟨0, by omega, rfl, HC1.out.less (fun m _ hm => hm.1)⟩
    case round =>
      obtain ⟨k, hk, rfl, hcs⟩ := hrel
      clear HC1
      by_cases hlt : k < 64
      · have hcs := hcs.no ((Tn.refl No wr).drew)
        obtain ⟨x, hx, hcall⟩ := HNX.out k wr.drew hlt hcs
        have hx0 : wr.cell? ⟨g, k, none⟩ = some (pv x) := hx
        have HCA := hid hcall
        have hki : (k : Int) < 64 := by omega
        have gl : g < wr.heap.size := (hcs.celln rfl k hlt).2.2
        clear hcall hcs HNX HFR hx
        go_wp2_with fail
        go_region
        go_wp2_with (go_at_call 146; refine HCA.out.mono ?_; rintro e w2 ⟨rfl, y1, ⟨v2, y2⟩, y3, y4, hcs2⟩; have HC2 := hid hcs2; clear hcs2)
        exact ⟨⟨k + 1, by omega, by go_num, HC2.out⟩, by simp [intOf]; omega⟩
      · obtain rfl : k = 64 := by omega
        rw [show ((64 : Nat) : Int) = 64 from rfl]
        obtain ⟨y1, y2, y3⟩ := HFR.out wr hcs
        have HC1 := hid hcs
        clear hcs HNX HFR
        go_wp2_with (at_range; refine wpList_range_m _ rfl _ rfl (HMPU.out _ _ _ HC1.out) rfl ?_; intro w0 left0 cnt0 hrg0 hlf0 tn0 hs0)
        have HS0 := hid (HC1.out.begin tn0 (by omega))
        go_frame
        obtain ⟨q, hq⟩ : ∃ q, wr.heap.size = q := ⟨_, rfl⟩
        rw [hq] at HS0 hrg0 hs0 ⊢
        have HCS0 : Hid (CS p b K j r (some g) mo lvs (fun n => 64 ≤ n ∧ n < 18446744073709551616 ∧ left0 (.int .u64 (n : Int)) = true) 64 (some q) (bcs fc o none (some g) mo) c w L w0) := hid (HS0.out.less (fun n _ hn => (by show 1 ≤ n ∧ 64 ≤ n; omega)))
        have HR0 := hid hrg0
        clear hrg0 hlf0 tn0 HS0
        go_loopw [7] (fun _ wr => ∃ (left : Lit → Bool) (cnt : Nat), RGm wr (fun n => if n < 64 then none else lvs n) mo q left cnt ∧ CS p b K j r (some g) mo lvs (fun n => 64 ≤ n ∧ n < 18446744073709551616 ∧ left (.int .u64 (n : Int)) = true) 64 (some q) (bcs fc o none (some g) mo) c w L wr) (fun _ wr => rgmLeft wr mo q)
        case atStart => exact ⟨left0, cnt0, HR0.out, HCS0.out⟩
        case round =>
          obtain ⟨left, cnt, hrg, hcs⟩ := hrel
          have HCS := hid hcs
          obtain ⟨m1, m2, m3⟩ := hcs.cellb (o + 2) (by omega)
          clear hcs HR0 HCS0
          go_wp2_with (at_next; refine wpList_next_m _ rfl _ rfl hrg rfl ?_ ?_)
          · intro hl0
            have HE := hid (cs_done (N := N) (o := o) (fc := fc) (by
              have h2 := HCS.out.end.setRow (o + 2) (by omega) (.map none)
              have e : upd (bcs fc o none (some g) mo) (o + 2) (.map none) = bcs fc o none (some g) none := by
                funext i
                have := bcs_far (fc := bcs fc o none (some g) mo) (o := o) (first := none) (near := (some g)) (mo := mo) (fun i => (bcs_bcs _ _ _ _ _ _ i).symm) none i
                rw [this, bcs_bcs]
              rw [e] at h2
              exact h2) (.inr rfl))
            clear hrg hl0 HCS
            go_wp2
            go_end0
            exact ⟨rfl, HE.out⟩
          · intro k g2 w1 cnt1 hk hk64 hf hlk hrg1 hml hg1 hs1 hen
            have hcs1 := HCS.out.iter (Tn.of_grown hg1 |>.mono (fun i _ e => by cases e; rfl))
            have HG2 := hid (hcs1.gives hpb hpw hf ⟨hk64, hk, hlk⟩)
            have HRG1 := hid hrg1
            have HML := hid hml
            have HEN := hid hen
            clear hrg hrg1 hcs1 hml hg1 HCS
            go_wp2_with (go_at_call 146; refine HG2.out.mono ?_; rintro e w2 ⟨rfl, hcs2, hkp2⟩; have HC2 := hid hcs2; have HK2 := hid hkp2; clear hcs2 hkp2)
            obtain ⟨r1, r2⟩ := HRG1.out.kept (fun bm e => HK2.out bm (.inr e)) (HK2.out q (.inl rfl))
            have HFIN := hid (HC2.out.less (R' := fun n => 64 ≤ n ∧ n < 18446744073709551616 ∧ (left (.int .u64 (n : Int)) && !(Lit.int .u64 (n : Int)).sameKey (.int .u64 (k : Int))) = true) (fun n _ hn => by
              have hn3 := hn.2.2
              rw [Bool.and_eq_true, Bool.not_eq_true'] at hn3
              refine ⟨⟨hn.1, hn.2.1, hn3.1⟩, ?_⟩
              rintro rfl
              have := hn3.2
              simp [Lit.sameKey] at this))
            have HML2 : Hid (rgmLeft w2 mo q < rgmLeft wr mo q) := hid (by rw [r2]; exact HML.out)
            refine ⟨?_, HML2.out⟩
            first
              | exact ⟨_, cnt1, r1, HFIN.out⟩
              | ((repeat apply Exists.intro); exact ⟨⟨_, cnt1, r1, HFIN.out⟩, rfl⟩)

end
end Go.Proofs.YtoidddfpekbliaaGreat
namespace Go.Proofs.YtoidddfpekbliaaGreat
set_option linter.unusedSimpArgs false
set_option linter.unusedVariables false
open Go.RowKit
attribute [local go_sem ↓] Go.wp_at_zero Go.wp_at_succ

/-- where a bank lies in its frame -/
def bo (j : Nat) (r : Bool) : Nat := 8 * j + 2 + cond r 3 0
def upd2 {α : Type} (f : Nat → Bool → α) (j : Nat) (r : Bool) (v : α) : Nat → Bool → α := fun i s => if i = j ∧ s = r then v else f i s
theorem upd2_same {α : Type} (f : Nat → Bool → α) (j : Nat) (r : Bool) (v : α) : upd2 f j r v j r = v := by simp [upd2]
theorem upd2_other {α : Type} (f : Nat → Bool → α) {i j : Nat} {s r : Bool} (v : α) (h : ¬ (i = j ∧ s = r)) : upd2 f j r v i s = f i s := by simp [upd2, h]

structure BX (p N b cap : Nat) (bn : Nat → Bool → Nat → Option Int) (fc c : Nat → Value) (w : World) (L : Nat → Option Lb) : Prop where
  pc : CB w p 18 c
  lp : L p = some .own
  lb : L b = some .row
  fb : CB w b (8 * cap) fc
  sp : ∃ sp, SPR w L (c 13) sp
  bk : ∀ j r, j < cap → ∃ first near mo lvs, BK w L j r N first near mo lvs (bn j r) ∧ ∀ i, fc i = bcs fc (bo j r) first near mo i
  lt : ∀ k, L k ≠ none → k < w.heap.size

/-- labels of banks and spare leaves -/
def Lb.isFr (l : Lb) : Prop := ∃ j r, l.isPut j r

def BP (p N b cap : Nat) (bn : Nat → Bool → Nat → Option Int) (fc c : Nat → Value) (w : World) (L : Nat → Option Lb) (w' : World) : Prop :=
  ∃ L' fc' c', BX p N b cap bn fc' c' w' L' ∧ Lq (fun k => k = p ∨ k = b) Lb.isFr w L w' L' ∧ (∀ i, i ≠ 13 → c' i = c i) ∧ ∀ i, i % 8 < 2 → fc' i = fc i

section
variable {p N b cap : Nat} {bn : Nat → Bool → Nat → Option Int} {fc c : Nat → Value} {w : World} {L : Nat → Option Lb}

theorem BP.trans {w1 w2 : World} {L1 : Nat → Option Lb} {fc1 c1 : Nat → Value} (h : BP p N b cap bn fc1 c1 w1 L1 w2) (hl : Lq (fun k => k = p ∨ k = b) Lb.isFr w L w1 L1) (hc : ∀ i, i ≠ 13 → c1 i = c i) (hf : ∀ i, i % 8 < 2 → fc1 i = fc i) : BP p N b cap bn fc c w L w2 := by
  obtain ⟨L2, fc2, c2, g1, g2, g3, g4⟩ := h
  exact ⟨L2, fc2, c2, g1, hl.trans g2, fun i hi => (g3 i hi).trans (hc i hi), fun i hi => (g4 i hi).trans (hf i hi)⟩
theorem BX.refl (h : BX p N b cap bn fc c w L) : BP p N b cap bn fc c w L w := ⟨L, fc, c, h, Lq.refl _ _ _ _ h.lt, fun _ _ => rfl, fun _ _ => rfl⟩

theorem BK.kept {w w' : World} {L L' : Nat → Option Lb} {j : Nat} {r : Bool} {N : Nat} {first near mo : Option Nat} {lvs : Nat → Option Nat} {B : Nat → Option Int} (h : BK w L j r N first near mo lvs B) (hk : ∀ k l, L k = some l → l.isBank j r → w'.heap[k]? = w.heap[k]?) (hl : ∀ k l, L k = some l → l.isBank j r → L' k = some l) : BK w' L' j r N first near mo lvs B := by
  refine ⟨h.f0, fun g e => ⟨hl _ _ (h.nr g e).1 ⟨rfl, rfl⟩, (h.nr g e).2.kept (hk g _ (h.nr g e).1 ⟨rfl, rfl⟩)⟩, h.nn, h.far.kept (fun b e => hk b _ (h.labf b e) ⟨rfl, rfl⟩), fun b e => hl _ _ (h.labf b e) ⟨rfl, rfl⟩, fun n g e => ?_, h.no, h.rg⟩
  obtain ⟨q1, s, c, q2, q3⟩ := h.lf n g e
  exact ⟨hl _ _ q1 ⟨rfl, rfl⟩, s, c, q2.kept (hk g _ q1 ⟨rfl, rfl⟩), q3⟩
theorem BK.mono {w : World} {L : Nat → Option Lb} {j : Nat} {r : Bool} {N M : Nat} {first near mo : Option Nat} {lvs : Nat → Option Nat} {B : Nat → Option Int} (h : BK w L j r N first near mo lvs B) (hN : N ≤ M) : BK w L j r M first near mo lvs B := { h with far := mp_mono h.far hN }
theorem BX.mono {M : Nat} (h : BX p N b cap bn fc c w L) (hN : N ≤ M) : BX p M b cap bn fc c w L :=
  { h with bk := fun j r hj => by obtain ⟨f, n, m, l, g1, g2⟩ := h.bk j r hj; exact ⟨f, n, m, l, g1.mono hN, g2⟩ }
theorem BP.mono {M : Nat} {w' : World} (h : BP p N b cap bn fc c w L w') (hN : N ≤ M) : BP p M b cap bn fc c w L w' := by
  obtain ⟨L', fc', c', g1, g2⟩ := h
  exact ⟨L', fc', c', g1.mono hN, g2⟩

theorem isBank_isPut {j j' : Nat} {r r' : Bool} {l : Lb} (h : l.isBank j' r') (hne : ¬ (j' = j ∧ r' = r)) : ¬ l.isPut j r := by
  rintro (h2 | h2 | ⟨i, h2⟩)
  · cases l <;> simp only [Lb.isBank] at h h2 <;> first | exact h | (apply hne; exact ⟨h.1.symm.trans h2.1, h.2.symm.trans h2.2⟩)
  · subst h2; exact h
  · subst h2; exact h

theorem BX.of_pt {j : Nat} {r : Bool} {M : Nat} {B : Nat → Option Int} {w' : World} (h : BX p N b cap bn fc c w L) (hN : N ≤ M) (hj : j < cap) (hpt : PT p b (bo j r) (8 * cap) L j r M B fc c w w') : BP p M b cap (upd2 bn j r B) fc c w L w' := by
  obtain ⟨L', f', n', m', l', sv', sp', g1, g2, g3, g4, g5⟩ := hpt
  have hpb : p ≠ b := by rintro rfl; have := h.lp; rw [h.lb] at this; cases this
  refine ⟨L', bcs fc (bo j r) f' n' m', upd c 13 sv', ⟨g4, g5.old p _ h.lp (isPut_own j r), g5.old b _ h.lb (isPut_row j r), g2, ⟨sp', by rw [upd_same]; exact g3⟩, fun j' r' hj' => ?_, g5.lt⟩, g5.weak (fun _ e => e) (fun l e => ⟨j, r, e⟩), fun i hi => upd_other _ _ hi, fun i hi => ?_⟩
  · by_cases e : j' = j ∧ r' = r
    · obtain ⟨rfl, rfl⟩ := e
      rw [upd2_same]
      exact ⟨f', n', m', l', g1, fun i => (bcs_bcs _ _ _ _ _ _ i).symm⟩
    · rw [upd2_other _ _ e]
      obtain ⟨f, n, m, l, q1, q2⟩ := h.bk j' r' hj'
      have hnb : ∀ k l, L k = some l → l.isBank j' r' → k ≠ p ∧ k ≠ b := fun k l e1 e2 => ⟨by rintro rfl; rw [h.lp] at e1; cases e1; exact e2, by rintro rfl; rw [h.lb] at e1; cases e1; exact e2⟩
      refine ⟨f, n, m, l, (q1.kept (fun k l e1 e2 => g5.keep h.lt e1 (isBank_isPut e2 e) (by rintro (q | q); exact (hnb k l e1 e2).1 q; exact (hnb k l e1 e2).2 q)) (fun k l e1 e2 => g5.old k l e1 (isBank_isPut e2 e))).mono hN, fun i => ?_⟩
      have hne : ∀ d, d < 3 → bo j' r' + d ≠ bo j r ∧ bo j' r' + d ≠ bo j r + 1 ∧ bo j' r' + d ≠ bo j r + 2 := by
        intro d hd
        unfold bo
        have : j' ≠ j ∨ r' ≠ r := by
          by_cases e3 : j' = j
          · exact .inr (fun e4 => e ⟨e3, e4⟩)
          · exact .inl e3
        cases r <;> cases r' <;> simp at this ⊢ <;> omega
      have hi := q2 i
      by_cases e0 : i = bo j' r'
      · subst e0
        have := hne 0 (by omega)
        simp only [bcs] at hi ⊢
        simp only [show ¬ bo j' r' = bo j r by omega, show ¬ bo j' r' = bo j r + 1 by omega, show ¬ bo j' r' = bo j r + 2 by omega, if_false, if_true] at hi ⊢
        exact hi
      · by_cases e1 : i = bo j' r' + 1
        · subst e1
          have := hne 1 (by omega)
          simp only [bcs] at hi ⊢
          simp only [this.1, this.2.1, this.2.2, show ¬ (bo j' r' + 1 = bo j' r') by omega, if_false, if_true] at hi ⊢
          exact hi
        · by_cases e2 : i = bo j' r' + 2
          · subst e2
            have := hne 2 (by omega)
            simp only [bcs] at hi ⊢
            simp only [this.1, this.2.1, this.2.2, show ¬ (bo j' r' + 2 = bo j' r') by omega, show ¬ (bo j' r' + 2 = bo j' r' + 1) by omega, if_false, if_true] at hi ⊢
            exact hi
          · simp only [bcs, e0, e1, e2, if_false]
  · unfold bcs bo
    rw [if_neg (by cases r <;> simp <;> omega), if_neg (by cases r <;> simp <;> omega), if_neg (by cases r <;> simp <;> omega)]

theorem bo_lt {j : Nat} (r : Bool) (hj : j < cap) : bo j r + 2 < 8 * cap := by unfold bo; cases r <;> simp <;> omega

theorem get_bx (h : BX p N b cap bn fc c w L) (j : Nat) (r : Bool) (hj : j < cap) (i : Nat) (hi : i < 18446744073709551616) :
    Calls Tryz.prog 78 #[.pointer (some ⟨b, bo j r, none⟩), .int .u64 (i : Int)] w fun e w' => e = .returned (.tuple #[.int .u64 ((bn j r i).getD 0), .bool (bn j r i).isSome]) ∧ w' = w := by
  obtain ⟨f, n, m, l, g1, g2⟩ := h.bk j r hj
  have hb := bo_lt r hj
  refine get_raw g1 ?_ ?_ ?_ i hi
  · rw [h.fb.cell _ (by omega), g2]; simp [bcs]
  · rw [h.fb.cell _ (by omega), g2]; simp [bcs]
  · rw [h.fb.cell _ (by omega), g2]; simp [bcs]
theorem put_bx (h : BX p N b cap bn fc c w L) (j : Nat) (r : Bool) (hj : j < cap) (hN : N < 4611686018427387904) (i : Nat) (hi : i < 18446744073709551616) (x : Int) (hx : 0 ≤ x ∧ x ≤ 18446744073709551615) :
    Calls Tryz.prog 82 #[.pointer (some ⟨b, bo j r, none⟩), .int .u64 (i : Int), .int .u64 x, .pointer (some ⟨p, 13, none⟩)] w fun e w' => e = .returned (.tuple #[]) ∧ BP p (N + 1) b cap (upd2 bn j r (upd (bn j r) i (some x))) fc c w L w' := by
  obtain ⟨f, n, m, l, g1, g2⟩ := h.bk j r hj
  obtain ⟨sp, hs⟩ := h.sp
  exact (put_bank g1 h.fb g2 (bo_lt r hj) hs h.pc rfl h.lb h.lp h.lt hN i hi x hx).mono (fun e w' q => ⟨q.1, h.of_pt (Nat.le_succ N) hj q.2⟩)
theorem clear_bx (h : BX p N b cap bn fc c w L) (j : Nat) (r : Bool) (hj : j < cap) :
    Calls Tryz.prog 121 #[.pointer (some ⟨b, bo j r, none⟩), .pointer (some ⟨p, 13, none⟩)] w fun e w' => e = .returned (.tuple #[]) ∧ BP p N b cap (upd2 bn j r (fun _ => none)) fc c w L w' := by
  obtain ⟨f, n, m, l, g1, g2⟩ := h.bk j r hj
  obtain ⟨sp, hs⟩ := h.sp
  exact (clear_bank g1 h.fb g2 (bo_lt r hj) hs h.pc rfl h.lb h.lp h.lt).mono (fun e w' q => ⟨q.1, h.of_pt (Nat.le_refl N) hj q.2⟩)

/-- a cell of a frame's head is set -/
theorem BX.head (h : BX p N b cap bn fc c w L) (q : Nat) (hq : q < 8 * cap) (hq2 : q % 8 < 2) (v : Value) : BX p N b cap bn (upd fc q v) c (w.setCell ⟨b, q, none⟩ v) L := by
  have hk : ∀ k l, L k = some l → l ≠ .row → (w.setCell ⟨b, q, none⟩ v).heap[k]? = w.heap[k]? := fun k l e hne => Below.heap_setCell _ _ _ _ (by intro e'; simp only at e'; subst e'; rw [h.lb] at e; cases e; exact hne rfl)
  obtain ⟨sp, hs⟩ := h.sp
  refine ⟨h.pc.kept (hk p _ h.lp (by simp)), h.lp, h.lb, h.fb.set q hq v, ⟨sp, hs.kept (fun k e => by rcases e with e | ⟨i, e⟩ <;> exact hk k _ e (by simp)) (fun _ _ => rfl)⟩, fun j r hj => ?_, fun k hk => by simpa using h.lt k hk⟩
  obtain ⟨f, n, m, l, g1, g2⟩ := h.bk j r hj
  refine ⟨f, n, m, l, g1.kept (fun k l e1 e2 => hk k l e1 (by rintro rfl; exact e2)) (fun _ _ e _ => e), fun i => ?_⟩
  have hi := g2 i
  by_cases e : i = q
  · subst e
    rw [upd_same]
    unfold bcs bo
    rw [if_neg (by cases r <;> simp <;> omega), if_neg (by cases r <;> simp <;> omega), if_neg (by cases r <;> simp <;> omega), upd_same]
  · rw [upd_other _ _ e, hi]
    simp only [bcs]
    split
    · rfl
    · split
      · rfl
      · split
        · rfl
        · rw [upd_other _ _ e]

set_option maxHeartbeats 2000000 in
theorem fclear_raw (h : BX p N b cap bn fc c w L) (j : Nat) (hj : j < cap) :
    Calls Tryz.prog 89 #[.pointer (some ⟨b, 8 * j, none⟩), .pointer (some ⟨p, 13, none⟩)] w fun e w' => e = .returned (.tuple #[]) ∧ BP p N b cap (upd2 (upd2 bn j false (fun _ => none)) j true (fun _ => none)) fc c w L w' := by
  have HC := hid (clear_bx h j false hj)
  have HC2 : Hid (∀ w1, BP p N b cap (upd2 bn j false (fun _ => none)) fc c w L w1 → Calls Tryz.prog 121 #[.pointer (some ⟨b, 8 * j + 5, none⟩), .pointer (some ⟨p, 13, none⟩)] w1 fun e w' => e = .returned (.tuple #[]) ∧ BP p N b cap (upd2 (upd2 bn j false (fun _ => none)) j true (fun _ => none)) fc c w L w') := by
    rintro w1 ⟨L1, fc1, c1, g1, g2, g3, g4⟩
    exact (clear_bx g1 j true hj).mono (fun e w' q => ⟨q.1, q.2.trans g2 g3 g4⟩)
  have e1 : bo j false = 8 * j + 2 := rfl
  rw [e1] at HC
  clear h
  go_enter Tryz.func89, Tryz.ntmps89
  go_wp2_with (first
    | (go_at_call 121; refine (HC2.out w1 HB.out).mono ?_; rintro e w2 ⟨rfl, hb⟩; have HE := hid hb; clear hb)
    | (go_at_call 121; refine HC.out.mono ?_; rintro e w1 ⟨rfl, hb⟩; have HB := hid hb; clear hb))
  go_end0
  exact ⟨rfl, HE.out⟩
end
end Go.Proofs.YtoidddfpekbliaaGreat
namespace Go.Proofs.YtoidddfpekbliaaGreat
set_option linter.unusedSimpArgs false
set_option linter.unusedVariables false
open Go.RowKit
attribute [local go_sem ↓] Go.wp_at_zero Go.wp_at_succ

/-- words that are handed over: they lie in no block of the process -/
structure AV (w : World) (L : Nat → Option Lb) (a : Option Addr) (xs : List Int) : Prop where
  at' : xs = [] ∨ ∃ g o, a = some ⟨g, o, none⟩ ∧ g < w.heap.size ∧ L g = none ∧ ∀ i v, xs[i]? = some v → w.cell? ⟨g, o + i, none⟩ = some (.int .u64 v)
  rg : ∀ v ∈ xs, 0 ≤ v ∧ v ≤ 18446744073709551615

section
variable {p N b cap : Nat} {bn : Nat → Bool → Nat → Option Int} {fc c : Nat → Value} {w : World} {L : Nat → Option Lb}

theorem AV.kept {w' : World} {a : Option Addr} {xs : List Int} (h : AV w L a xs) {L' : Nat → Option Lb} (hk : ∀ g, g < w.heap.size → L g = none → w'.heap[g]? = w.heap[g]? ∧ L' g = none) (hs : w.heap.size ≤ w'.heap.size) : AV w' L' a xs := by
  refine ⟨?_, h.rg⟩
  rcases h.at' with e | ⟨g, o, e, h1, h2, h3⟩
  · exact .inl e
  · exact .inr ⟨g, o, e, Nat.lt_of_lt_of_le h1 hs, (hk g h1 h2).2, fun i v hv => by rw [World.cell?_of_block (w := w) (a := ⟨g, o + i, none⟩) (hk g h1 h2).1]; exact h3 i v hv⟩
theorem Lq.foreign {P : Lb → Prop} {w' : World} {L' : Nat → Option Lb} (h : Lq (fun k => k = p ∨ k = b) P w L w' L') (hp : L p = some .own) (hb : L b = some .row) {g : Nat} (hg : g < w.heap.size) (hn : L g = none) : w'.heap[g]? = w.heap[g]? ∧ L' g = none := by
  refine ⟨h.tn.block g hg ?_, h.non g hg hn⟩
  rintro ((rfl | rfl) | ⟨l, e, _⟩)
  · rw [hp] at hn; cases hn
  · rw [hb] at hn; cases hn
  · rw [hn] at e; cases e

/-- the first ones of a list, as a bank's cells -/
def firstOf (xs : List Int) (k : Nat) : Nat → Option Int := fun i => (xs.take k)[i]?
theorem firstOf_zero (xs : List Int) : firstOf xs 0 = fun _ => none := by funext i; simp [firstOf]
theorem firstOf_all (xs : List Int) : firstOf xs xs.length = fun i => xs[i]? := by funext i; simp [firstOf]
theorem firstOf_succ (xs : List Int) (k : Nat) (v : Int) (h : xs[k]? = some v) : upd (firstOf xs k) k (some v) = firstOf xs (k + 1) := by
  have hk := (List.getElem?_eq_some_iff.1 h).1
  funext i
  unfold firstOf upd
  by_cases e : i = k
  · subst e
    rw [if_pos rfl, List.getElem?_take_of_lt (by omega), h]
  · rw [if_neg e]
    show (xs.take k)[i]? = (xs.take (k + 1))[i]?
    by_cases h2 : i < k
    · rw [List.getElem?_take_of_lt h2, List.getElem?_take_of_lt (by omega)]
    · rw [List.getElem?_eq_none (by simp; omega), List.getElem?_eq_none (by simp; omega)]

theorem upd2_upd2 {α : Type} (f : Nat → Bool → α) (j : Nat) (r : Bool) (u v : α) : upd2 (upd2 f j r u) j r v = upd2 f j r v := by
  funext i s; unfold upd2; split <;> rfl
theorem upd2_self {α : Type} (f : Nat → Bool → α) (j : Nat) (r : Bool) : upd2 f j r (f j r) = f := by
  funext i s; unfold upd2; split
  · rename_i h; rw [h.1, h.2]
  · rfl

/-- what begin leaves -/
def BG (p N b cap : Nat) (bn : Nat → Bool → Nat → Option Int) (j : Nat) (fv : Value) (fc c : Nat → Value) (w : World) (L : Nat → Option Lb) (w' : World) : Prop :=
  ∃ L' fc' c', BX p N b cap bn fc' c' w' L' ∧ Lq (fun k => k = p ∨ k = b) Lb.isFr w L w' L' ∧ (∀ i, i ≠ 13 → c' i = c i) ∧ (∀ i, i % 8 < 2 → i ≠ 8 * j → i ≠ 8 * j + 1 → fc' i = fc i) ∧ fc' (8 * j) = fv ∧ fc' (8 * j + 1) = .int .i64 0

set_option maxHeartbeats 4000000 in
set_option maxRecDepth 100000 in
theorem begin_raw (h : BX p N b cap bn fc c w L) (j : Nat) (hj : j < cap) (hbn : bn j false = fun _ => none) (f : Option Addr) (a : Option Addr) (ac : Nat) (xs : List Int) (hav : AV w L a xs) (hac : xs.length ≤ ac) (hlen : xs.length ≤ 1048576) (hN : N < 4611686018426339328) :
    Calls Tryz.prog 74 #[.pointer (some ⟨b, 8 * j, none⟩), .pointer f, .slice a xs.length ac, .pointer (some ⟨p, 13, none⟩)] w fun e w' => e = .returned (.tuple #[]) ∧ BG p (N + xs.length) b cap (upd2 bn j false (fun i => xs[i]?)) j (.pointer f) fc c w L w' := by
  have k0 := h.fb.cell (8 * j) (by omega)
  have k1 := h.fb.cell (8 * j + 1) (by omega)
  have z0 := h.fb.froz (8 * j)
  have z1 := h.fb.froz (8 * j + 1)
  have blt := h.fb.lt
  obtain ⟨w1, hw1⟩ : ∃ w1, w1 = (w.setCell ⟨b, 8 * j, none⟩ (.pointer f)).setCell ⟨b, 8 * j + 1, none⟩ (.int .i64 0) := ⟨_, rfl⟩
  have h1 : BX p N b cap bn (upd (upd fc (8 * j) (.pointer f)) (8 * j + 1) (.int .i64 0)) c w1 L := by
    rw [hw1]; exact (h.head (8 * j) (by omega) (by omega) _).head (8 * j + 1) (by omega) (by omega) _
  have l1 : Lq (fun k => k = p ∨ k = b) Lb.isFr w L w1 L := by
    rw [hw1]
    exact ⟨Tn.set (Tn.set (Tn.refl _ _) _ _ (fun _ => .inl (.inr rfl))) _ _ (fun _ => .inl (.inr rfl)), fun _ _ e _ => e, fun k l e => ⟨by simpa using h.lt k (by rw [e]; simp), .inr e⟩, fun _ _ e => e⟩
  have hav1 : AV w1 L a xs := hav.kept (fun g hg hn => l1.foreign h.lp h.lb hg hn) l1.tn.size
  have st : BP p (N + 0) b cap (upd2 bn j false (firstOf xs 0)) (upd (upd fc (8 * j) (.pointer f)) (8 * j + 1) (.int .i64 0)) c w1 L w1 := by
    rw [firstOf_zero, ← hbn, upd2_self]; exact h1.refl
  have HST := hid st
  have HEND : Hid (∀ w2, BP p (N + xs.length) b cap (upd2 bn j false (firstOf xs xs.length)) (upd (upd fc (8 * j) (.pointer f)) (8 * j + 1) (.int .i64 0)) c w1 L w2 → BG p (N + xs.length) b cap (upd2 bn j false (fun i => xs[i]?)) j (.pointer f) fc c w L w2) := by
    rintro w2 ⟨L2, fc2, c2, g1, g2, g3, g4⟩
    rw [firstOf_all] at g1
    refine ⟨L2, fc2, c2, g1, l1.trans g2, g3, fun i hi h3 h4 => ?_, ?_, ?_⟩
    · rw [g4 i hi, upd_other _ _ h4, upd_other _ _ h3]
    · rw [g4 _ (by omega), upd_other _ _ (by omega), upd_same]
    · rw [g4 _ (by omega), upd_same]
  have HRD : Hid (∀ k wr, k < xs.length → BP p (N + k) b cap (upd2 bn j false (firstOf xs k)) (upd (upd fc (8 * j) (.pointer f)) (8 * j + 1) (.int .i64 0)) c w1 L wr →
      ∃ g o v, a = some ⟨g, o, none⟩ ∧ wr.cell? ⟨g, o + k, none⟩ = some (.int .u64 v) ∧ Calls Tryz.prog 82 #[.pointer (some ⟨b, 8 * j + 2, none⟩), .int .u64 (k : Int), .int .u64 v, .pointer (some ⟨p, 13, none⟩)] wr fun e w' => e = .returned (.tuple #[]) ∧
        BP p (N + (k + 1)) b cap (upd2 bn j false (firstOf xs (k + 1))) (upd (upd fc (8 * j) (.pointer f)) (8 * j + 1) (.int .i64 0)) c w1 L w') := by
    rintro k wr hk ⟨L2, fc2, c2, g1, g2, g3, g4⟩
    have hav2 : AV wr L2 a xs := hav1.kept (fun g hg hn => g2.foreign h1.lp h1.lb hg hn) g2.tn.size
    rcases hav2.at' with e | ⟨g, o, e, _, _, h3⟩
    · rw [e] at hk; simp at hk
    · have hv := List.getElem?_eq_getElem hk
      refine ⟨g, o, xs[k], e, h3 k _ hv, ?_⟩
      have := put_bx g1 j false hj (by omega) k (by omega) xs[k] (hav2.rg _ (List.getElem_mem hk))
      rw [upd2_same, firstOf_succ xs k _ hv, upd2_upd2] at this
      exact this.mono (fun e w' q => ⟨q.1, q.2.trans g2 g3 g4⟩)
  subst hw1
  clear h h1 l1 hav hav1 st hbn
  have hlen2 : (xs.length : Int) ≤ 1048576 := by omega
  go_enter Tryz.func74, Tryz.ntmps74
  go_wp2_with fail
  go_loopw [19] (fun i wr => ∃ k : Nat, k ≤ xs.length ∧ i = .int .i64 (k : Int) ∧ BP p (N + k) b cap (upd2 bn j false (firstOf xs k)) (upd (upd fc (8 * j) (.pointer f)) (8 * j + 1) (.int .i64 0)) c ((w.setCell ⟨b, 8 * j, none⟩ (.pointer f)).setCell ⟨b, 8 * j + 1, none⟩ (.int .i64 0)) L wr) (fun i _ => xs.length - (intOf i).toNat)
  case atStart => exact ⟨0, by omega, rfl, HST.out⟩
  case round =>
    obtain ⟨k, hk, rfl, hbp⟩ := hrel
    clear HST
    by_cases hlt : k < xs.length
    · obtain ⟨g, o, v, ea, hv, hcall⟩ := HRD.out k wr hlt hbp
      have HCA := hid hcall
      have hki : (k : Int) < (xs.length : Int) := by omega
      subst ea
      clear hcall hbp HRD
      go_wp2_with (go_at_call 82; refine HCA.out.mono ?_; rintro e w2 ⟨rfl, hb2⟩; have HB2 := hid hb2; clear hb2)
      exact ⟨⟨k + 1, by omega, by go_num, HB2.out⟩, by simp [intOf]; omega⟩
    · obtain rfl : k = xs.length := by omega
      have HE := hid (HEND.out wr hbp)
      clear HRD HEND hbp
      go_wp2
      go_end0
      exact ⟨rfl, HE.out⟩
end
end Go.Proofs.YtoidddfpekbliaaGreat
namespace Go.Proofs.YtoidddfpekbliaaGreat
set_option linter.unusedSimpArgs false
set_option linter.unusedVariables false
open Go.RowKit
attribute [local go_sem ↓] Go.wp_at_zero Go.wp_at_succ

/-- a call -/
structure Fr where
  fn : Nat
  at_ : Nat
  regs : Nat → Option Int
  slots : Nat → Option Int

def bankOf (fs : List Fr) : Nat → Bool → Nat → Option Int := fun j r => match fs[j]? with | some f => cond r f.slots f.regs | none => fun _ => none

structure OX (p N b cap fb : Nat) (fs : List Fr) (fc c : Nat → Value) (w : World) (L : Nat → Option Lb) : Prop where
  bx : BX p N b cap (bankOf fs) fc c w L
  len : fs.length ≤ cap
  cm : cap ≤ 9223372036854775807
  most : fs.length ≤ 1048576
  ov : c 12 = .slice (some ⟨b, 0, none⟩) fs.length cap
  hd : ∀ j f, fs[j]? = some f → fc (8 * j) = .pointer (some ⟨fb, 3 * f.fn, none⟩) ∧ fc (8 * j + 1) = .int .i64 (f.at_ : Int)

/-- what is left of the row behind a call that keeps it where it is -/
def OP (p N b cap fb : Nat) (fs : List Fr) (c : Nat → Value) (X : Nat → Prop) (w : World) (L : Nat → Option Lb) (w' : World) : Prop :=
  ∃ L' fc' c', OX p N b cap fb fs fc' c' w' L' ∧ Lq (fun k => k = p ∨ k = b) Lb.isFr w L w' L' ∧ ∀ i, ¬ X i → c' i = c i

section
variable {p N b cap fb : Nat} {bn : Nat → Bool → Nat → Option Int} {fc c : Nat → Value} {w : World} {L : Nat → Option Lb} {fs : List Fr}

theorem BX.no {w' : World} (h : BX p N b cap bn fc c w L) (t : Tn No w w') : BX p N b cap bn fc c w' L := by
  have hk : ∀ k l, L k = some l → w'.heap[k]? = w.heap[k]? := fun k l e => t.block k (h.lt k (by rw [e]; simp)) (fun e => e)
  obtain ⟨sp, hs⟩ := h.sp
  refine ⟨h.pc.kept (hk p _ h.lp), h.lp, h.lb, h.fb.kept (hk b _ h.lb), ⟨sp, hs.kept (fun k e => by rcases e with e | ⟨i, e⟩ <;> exact hk k _ e) (fun _ _ => rfl)⟩, fun j r hj => ?_, fun k hk => Nat.lt_of_lt_of_le (h.lt k hk) t.size⟩
  obtain ⟨f, n, m, l, g1, g2⟩ := h.bk j r hj
  exact ⟨f, n, m, l, g1.kept (fun k l e1 _ => hk k l e1) (fun _ _ e _ => e), g2⟩
theorem Lq.of_no {F : Nat → Prop} {P : Lb → Prop} {w' : World} (hlt : ∀ k, L k ≠ none → k < w.heap.size) (t : Tn No w w') : Lq F P w L w' L :=
  ⟨t.any, fun _ _ e _ => e, fun k l e => ⟨Nat.lt_of_lt_of_le (hlt k (by rw [e]; simp)) t.size, .inr e⟩, fun _ _ e => e⟩
theorem OX.no {w' : World} (h : OX p N b cap fb fs fc c w L) (t : Tn No w w') : OX p N b cap fb fs fc c w' L := { h with bx := h.bx.no t }
theorem OX.mono {M : Nat} (h : OX p N b cap fb fs fc c w L) (hN : N ≤ M) : OX p M b cap fb fs fc c w L := { h with bx := h.bx.mono hN }

theorem OP.no {X : Nat → Prop} {w1 w2 : World} (h : OP p N b cap fb fs c X w L w1) (t : Tn No w1 w2) : OP p N b cap fb fs c X w L w2 := by
  obtain ⟨L', fc', c', g1, g2, g3⟩ := h
  exact ⟨L', fc', c', g1.no t, g2.trans (Lq.of_no g1.bx.lt t), g3⟩

/-- one of the process's own cells, but the spares', is set -/
theorem BX.own (h : BX p N b cap bn fc c w L) (i : Nat) (hi : i < 18) (h13 : i ≠ 13) (v : Value) : BX p N b cap bn fc (upd c i v) (w.setCell ⟨p, i, none⟩ v) L := by
  have hk : ∀ k l, L k = some l → l ≠ .own → (w.setCell ⟨p, i, none⟩ v).heap[k]? = w.heap[k]? := fun k l e hne => Below.heap_setCell _ _ _ _ (by intro e'; simp only at e'; subst e'; rw [h.lp] at e; cases e; exact hne rfl)
  obtain ⟨sp, hs⟩ := h.sp
  refine ⟨h.pc.set i hi v, h.lp, h.lb, h.fb.kept (hk b _ h.lb (by simp)), ⟨sp, by rw [upd_other _ _ (Ne.symm h13)]; exact hs.kept (fun k e => by rcases e with e | ⟨i, e⟩ <;> exact hk k _ e (by simp)) (fun _ _ => rfl)⟩, fun j r hj => ?_, fun k hk => by simpa using h.lt k hk⟩
  obtain ⟨f, n, m, l, g1, g2⟩ := h.bk j r hj
  exact ⟨f, n, m, l, g1.kept (fun k l e1 e2 => hk k l e1 (by rintro rfl; exact e2)) (fun _ _ e _ => e), g2⟩
theorem lq_own (hlt : ∀ k, L k ≠ none → k < w.heap.size) (i : Nat) (v : Value) : Lq (fun k => k = p ∨ k = b) Lb.isFr w L (w.setCell ⟨p, i, none⟩ v) L :=
  ⟨Tn.set (Tn.refl _ _) _ _ (fun _ => .inl (.inl rfl)), fun _ _ e _ => e, fun k l e => ⟨by simpa using hlt k (by rw [e]; simp), .inr e⟩, fun _ _ e => e⟩

theorem bankOf_pop (f : Fr) : upd2 (upd2 (bankOf (fs ++ [f])) fs.length false (fun _ => none)) fs.length true (fun _ => none) = bankOf fs := by
  funext j r
  unfold upd2 bankOf
  by_cases e : j = fs.length
  · subst e
    cases r <;> simp
  · rw [if_neg (by simp [e]), if_neg (by simp [e])]
    rcases Nat.lt_or_ge j fs.length with h | h
    · rw [List.getElem?_append_left h]
    · rw [List.getElem?_eq_none (by simp; omega), List.getElem?_eq_none h]

set_option maxHeartbeats 1000000 in
set_option maxRecDepth 100000 in
theorem pop_raw {f : Fr} (h : OX p N b cap fb (fs ++ [f]) fc c w L) :
    Calls Tryz.prog 51 #[.pointer (some ⟨p, 0, none⟩)] w fun e w' => e = .returned (.tuple #[]) ∧ OP p N b cap fb fs c (fun i => i = 12 ∨ i = 13) w L w' := by
  have hl := h.len
  rw [List.length_append] at hl
  simp at hl
  have hcm := h.cm
  have hmost := h.most
  rw [List.length_append] at hmost
  simp at hmost
  have k12 := h.bx.pc.cell 12 (by omega)
  rw [h.ov, List.length_append] at k12
  simp at k12
  have plt := h.bx.pc.lt
  have HC : Hid (∀ w1, Tn No w w1 → Calls Tryz.prog 89 #[.pointer (some ⟨b, fs.length * 8, none⟩), .pointer (some ⟨p, 13, none⟩)] w1 fun e w2 => e = .returned (.tuple #[]) ∧ (w2.cell? ⟨p, 12, none⟩ = some (.slice (some ⟨b, 0, none⟩) (fs.length + 1) cap) ∧ w2.frozen? ⟨p, 12, none⟩ = false ∧ p < w2.heap.size) ∧
      OP p N b cap fb fs c (fun i => i = 12 ∨ i = 13) w L (w2.setCell ⟨p, 12, none⟩ (.slice (some ⟨b, 0, none⟩) fs.length cap))) := by
    intro w1 t
    rw [Nat.mul_comm fs.length 8]
    refine (fclear_raw (h.bx.no t) fs.length (by omega)).mono ?_
    rintro e w2 ⟨rfl, L2, fc2, c2, g1, g2, g3, g4⟩
    rw [bankOf_pop] at g1
    have e12 : c2 12 = .slice (some ⟨b, 0, none⟩) (fs.length + 1) cap := by rw [g3 12 (by omega), h.ov]; simp
    refine ⟨rfl, ⟨by rw [g1.pc.cell 12 (by omega), e12], g1.pc.froz 12, g1.pc.lt⟩, L2, fc2, _, ⟨g1.own 12 (by omega) (by omega) _, by omega, hcm, by omega, upd_same _ _ _, fun j q e => ?_⟩, ((Lq.of_no h.bx.lt t).trans g2).trans (lq_own g1.lt 12 _), fun i hi => ?_⟩
    · have hj := (List.getElem?_eq_some_iff.1 e).1
      have := h.hd j q (by rw [List.getElem?_append_left hj]; exact e)
      rw [g4 _ (by omega), g4 _ (by omega)]
      exact this
    · rw [upd_other _ _ (by omega), g3 i (by omega)]
  clear h
  obtain ⟨n, hn⟩ : ∃ n, fs.length = n := ⟨_, rfl⟩
  rw [hn] at HC k12 hl hmost
  have h0 : (0 : Int) ≤ (n : Int) := by omega
  have h1 : (n : Int) < (n : Int) + 1 := by omega
  have h2 : (n : Int) ≤ 1048576 := by omega
  have h5 : ((n + 1 : Nat) : Int) - 1 = (n : Int) := by omega
  have h6 : wrap64 (n : Int) = n := by unfold wrap64; omega
  have h7 : IntKind.i64.wrap (n : Int) = n := by simp [IntKind.wrap, IntKind.bits, IntKind.signed]; omega
  have h8 : IntKind.i64.wrap ((n : Int) + 1 - 1) = n := by simp [IntKind.wrap, IntKind.bits, IntKind.signed]; omega
  have h9 : wrap64 ((n : Int) + 1 - 1) = n := by unfold wrap64; omega
  have hb1 : (n : Int) ≤ (cap : Int) := by omega
  clear hn hmost hl hcm
  go_enter Tryz.func51, Tryz.ntmps51
  go_wp2_with fail
  go_region_held3 (fun w' => w'.cell? ⟨p, 12, none⟩ = some (.slice (some ⟨b, 0, none⟩) (n + 1) cap)) (go_keep) (first
    | (go_at_call 89; refine (HC.out _ (by repeat (first | exact Tn.refl _ _ | apply Tn.drew | apply Tn.drewN | apply Tn.alloc | (refine Tn.then ?_ (by assumption)) | (refine Tn.thenNo ?_ (by assumption))))).mono ?_; rintro e w2 ⟨rfl, ⟨y1, y2, y3⟩, hop⟩; have HE := hid hop; clear hop))
  go_wp2_with fail
  go_region
  go_wp2
  go_end0
  exact ⟨rfl, HE.out.no (Tn.drew (Tn.refl No _))⟩
end
end Go.Proofs.YtoidddfpekbliaaGreat
namespace Go.Proofs.YtoidddfpekbliaaGreat
set_option linter.unusedSimpArgs false
set_option linter.unusedVariables false
open Go.RowKit
attribute [local go_sem ↓] Go.wp_at_zero Go.wp_at_succ

theorem fr_info : (Tryz.prog.info? 169).map (fun i => (i.zero, i.size, i.bytes)) = some (some (.agg #[.pointer none, .int .i64 0, .pointer none, .pointer none, .map none, .pointer none, .pointer none, .map none]), 8, 64) := by kernel_rfl

/-- a frame's cells at first -/
def fr0 (i : Nat) : Value := match i % 8 with | 1 => .int .i64 0 | 4 => .map none | 7 => .map none | _ => .pointer none
def frL : List Value := [.pointer none, .int .i64 0, .pointer none, .pointer none, .map none, .pointer none, .pointer none, .map none]
theorem frL_at (i : Nat) (h : i < 8) : frL[i]? = some (fr0 i) := by
  match i, h with
  | 0, _ => rfl
  | 1, _ => rfl
  | 2, _ => rfl
  | 3, _ => rfl
  | 4, _ => rfl
  | 5, _ => rfl
  | 6, _ => rfl
  | 7, _ => rfl

theorem frL_bang (i : Nat) (h : i < 8) : frL.toArray[i]! = fr0 i := by
  match i, h with
  | 0, _ => rfl
  | 1, _ => rfl
  | 2, _ => rfl
  | 3, _ => rfl
  | 4, _ => rfl
  | 5, _ => rfl
  | 6, _ => rfl
  | 7, _ => rfl
theorem fr0_mod (i : Nat) : fr0 (i % 8) = fr0 i := by simp [fr0]
theorem fr0_add (i n : Nat) : fr0 (8 * n + i) = fr0 i := by unfold fr0; rw [Nat.mul_add_mod]

theorem zeroCells_at (k i : Nat) (h : i < k * 8) : (Builtin.zeroCells frL.toArray k)[i]? = some (fr0 i) := by
  have hs : frL.toArray.size = 8 := rfl
  simp only [Builtin.zeroCells, hs]
  rw [Array.getElem?_map, Array.getElem?_range, if_pos h, Option.map_some, frL_bang _ (Nat.mod_lt _ (by decide)), fr0_mod]

/-- the row of calls is full: a greater one takes its place -/
theorem row_grows {w : World} {base : Option Addr} {n : Nat} {fc : Nat → Value} (hb : base = none ∧ n = 0 ∨ ∃ b, base = some ⟨b, 0, none⟩ ∧ CB w b (8 * n) fc) (hn : n ≤ 1048576) :
    ∃ cap', n + 1 ≤ cap' ∧ cap' ≤ 9223372036854775807 ∧ ∃ w', (Builtin.append_ #[109, 109] 109 #[.slice base n n, .slice (some ⟨w.heap.size, 0, none⟩) 1 1]).run Tryz.prog (w.alloc (.cells frL.toArray 169)) = .ok (.slice (some ⟨w.heap.size + 1, 0, none⟩) (n + 1) cap') w' ∧ Tn No w w' ∧ w'.heap.size = w.heap.size + 2 ∧
      CB w' (w.heap.size + 1) (8 * cap') (fun i => if i < 8 * n then fc i else fr0 i) := by
  obtain ⟨i, hi, hz0, hz1, hz2⟩ := info_parts fr_info
  have hsz : (w.alloc (.cells frL.toArray 169)).heap.size = w.heap.size + 1 := by simp
  have hsrc : Src Tryz.prog i.size 109 (.slice (some ⟨w.heap.size, 0, none⟩) 1 1) 1 frL (w.alloc (.cells frL.toArray 169)) := by
    rw [hz1]
    refine Src.ofSlice _ Tryz.underlying109 _ 1 1 _ rfl (fun j u hu => ?_) (fun u hu => by simp [frL] at hu; rcases hu with rfl | rfl | rfl | rfl | rfl | rfl <;> rfl)
    rw [addr_add, World.cell?_alloc_at _ _ _ _ (by simp)]
    simpa using hu
  obtain ⟨olds, hol, hat⟩ : ∃ olds : List Value, olds.length = n * i.size ∧ ∀ q, q < n * 8 → olds[q]? = some (fc q) := by
    refine ⟨(List.range (n * 8)).map fc, by simp [hz1], fun q hq => ?_⟩
    rw [List.getElem?_map, List.getElem?_range hq]; rfl
  have hold : (Builtin.firstCells i.size n (.slice base n n)).run Tryz.prog (w.alloc (.cells frL.toArray 169)).drew = .ok olds.toArray (w.alloc (.cells frL.toArray 169)).drew := by
    rcases hb with ⟨rfl, rfl⟩ | ⟨b, rfl, hcb⟩
    · have : olds = [] := List.length_eq_zero_iff.1 (by rw [hol]; simp)
      subst this
      simp [Builtin.firstCells, loadCells, loadCellsFrom]
    · refine run_firstCells_some (P := Tryz.prog) (w.alloc (.cells frL.toArray 169)).drew i.size n ⟨b, 0, none⟩ n n olds hol (fun j u hu => ?_)
      rw [addr_add]
      obtain ⟨hj, _⟩ := List.getElem?_eq_some_iff.1 hu
      rw [hol, hz1] at hj
      rw [hat j hj] at hu
      cases hu
      have : (w.alloc (.cells frL.toArray 169)).heap[b]? = w.heap[b]? := Below.heap_alloc _ _ _ hcb.lt
      exact (World.cell?_of_block (w := w) (a := ⟨b, j, none⟩) this).trans (hcb.cell j (by omega))
  have hfit : Builtin.nextslicecap (n + 1) n * i.bytes ≤ 281474976710656 := growslice_fits (by omega) (by rw [hz2]; omega)
  have hr := run_append_grow_src (P := Tryz.prog) (w.alloc (.cells frL.toArray 169)) 109 109 109 169 i _ Tryz.underlying109 hi hz0 base n n olds hold _ 1 frL hsrc (by omega) (by omega) hfit
  have hge := grownCap_ge (w.alloc (.cells frL.toArray 169)) (n + 1) n 169
  have hcm := grownCap_le_maxLen (w.alloc (.cells frL.toArray 169)) (n + 1) n 169 (by unfold maxLen; omega)
  obtain ⟨cap', hcap⟩ : ∃ cap', grownCap (w.alloc (.cells frL.toArray 169)) (n + 1) n 169 = cap' := ⟨_, rfl⟩
  rw [hcap, hsz] at hr
  rw [hcap] at hge hcm
  have hzc : (Value.agg #[.pointer none, .int .i64 0, .pointer none, .pointer none, .map none, .pointer none, .pointer none, .map none]).cells = frL.toArray := rfl
  rw [hzc] at hr
  refine ⟨cap', hge, by unfold maxLen at hcm; omega, _, hr, ⟨rfl, rfl, rfl, by simp; omega, fun k hk _ => ?_⟩, by simp, ?_⟩
  · rw [Below.heap_alloc _ _ _ (by show k < (w.alloc (.cells frL.toArray 169)).heap.size; rw [hsz]; omega)]
    exact Below.heap_alloc _ _ _ hk
  · have hnew := CB.new (w.alloc (.cells frL.toArray 169)).drew ((olds ++ frL).toArray ++ Builtin.zeroCells frL.toArray (cap' - (n + 1))) 169
    have hs1 : (w.alloc (.cells frL.toArray 169)).drew.heap.size = w.heap.size + 1 := hsz
    rw [hs1] at hnew
    have hfl : frL.length = 8 := rfl
    have hsz2 : ((olds ++ frL).toArray ++ Builtin.zeroCells frL.toArray (cap' - (n + 1))).size = 8 * cap' := by
      rw [Array.size_append, List.size_toArray, List.length_append, hol, hz1, size_zeroCells, List.size_toArray, hfl]
      omega
    rw [hsz2] at hnew
    refine hnew.congr (fun q hq => ?_)
    by_cases h1 : q < 8 * n
    · rw [if_pos h1, Array.getElem?_append_left (by rw [List.size_toArray, List.length_append, hol, hz1]; omega), List.getElem?_toArray, List.getElem?_append_left (by rw [hol, hz1]; omega), hat q (by omega)]; rfl
    · rw [if_neg h1]
      by_cases h2 : q < 8 * n + 8
      · rw [Array.getElem?_append_left (by rw [List.size_toArray, List.length_append, hol, hz1, hfl]; omega), List.getElem?_toArray, List.getElem?_append_right (by rw [hol, hz1]; omega), hol, hz1, frL_at _ (by omega)]
        show fr0 (q - n * 8) = fr0 q
        rw [← fr0_add (q - n * 8) n, show 8 * n + (q - n * 8) = q by omega]
      · rw [Array.getElem?_append_right (by rw [List.size_toArray, List.length_append, hol, hz1, hfl]; omega), List.size_toArray, List.length_append, hol, hz1, hfl, zeroCells_at _ _ (by omega)]
        show fr0 (q - (n * 8 + 8)) = fr0 q
        rw [← fr0_add (q - (n * 8 + 8)) (n + 1), show 8 * (n + 1) + (q - (n * 8 + 8)) = q by omega]

/-- labels of calls, spare leaves and rows -/
def Lb.isOp (l : Lb) : Prop := l.isFr ∨ l = .row

def BXr (p N b cap : Nat) (bn : Nat → Bool → Nat → Option Int) (fc c : Nat → Value) (w : World) (L : Nat → Option Lb) (w' : World) (L' : Nat → Option Lb) : Prop := BX p N b cap bn fc c w' L' ∧ Lq (fun k => k = p) Lb.isOp w L w' L'

theorem Lq.op {p b : Nat} {w w' : World} {L L' : Nat → Option Lb} (h : Lq (fun k => k = p ∨ k = b) Lb.isFr w L w' L') (hb : L b = some .row ∨ w.heap.size ≤ b) : Lq (fun k => k = p) Lb.isOp w L w' L' := by
  refine ⟨h.tn.mono (fun k hk e => ?_), fun k l e hP => h.old k l e (fun q => hP (.inl q)), fun k l e => ⟨(h.new k l e).1, (h.new k l e).2.imp (fun q => .inl q) id⟩, h.non⟩
  rcases e with (e | e) | ⟨l, e1, e2⟩
  · exact .inl e
  · subst e
    rcases hb with hb | hb
    · exact .inr ⟨_, hb, .inr rfl⟩
    · omega
  · exact .inr ⟨l, e1, .inl e2⟩

/-- an empty bank -/
theorem BK.empty (w : World) (L : Nat → Option Lb) (j : Nat) (r : Bool) (N : Nat) : BK w L j r N none none none (fun _ => none) (fun _ => none) :=
  ⟨rfl, fun _ e => (by cases e), fun _ _ _ _ => rfl, .inl ⟨rfl, fun k => by simp⟩, fun _ e => (by cases e), fun _ _ e => (by cases e), fun _ _ _ _ => rfl, fun _ _ e => (by cases e)⟩

theorem fr0_bank (j : Nat) (r : Bool) : fr0 (bo j r) = pv none ∧ fr0 (bo j r + 1) = pv none ∧ fr0 (bo j r + 2) = .map none := by
  unfold bo
  cases r
  · simp only [cond_false, Nat.add_zero]
    refine ⟨?_, ?_, ?_⟩
    · rw [fr0_add]; rfl
    · rw [Nat.add_assoc, fr0_add]; rfl
    · rw [Nat.add_assoc, fr0_add]; rfl
  · simp only [cond_true]
    refine ⟨?_, ?_, ?_⟩
    · rw [Nat.add_assoc, fr0_add]; rfl
    · rw [Nat.add_assoc, Nat.add_assoc, fr0_add]; rfl
    · rw [Nat.add_assoc, Nat.add_assoc, fr0_add]; rfl

/-- the row in its new place, before it is noted in the process -/
theorem bx_grown {p N b fbk : Nat} {fs : List Fr} {fc c : Nat → Value} {w w' : World} {L : Nat → Option Lb} {cap' : Nat} (h : OX p N b fs.length fbk fs fc c w L) (t : Tn No w w') (hs : w'.heap.size = w.heap.size + 2) (hcb : CB w' (w.heap.size + 1) (8 * cap') (fun i => if i < 8 * fs.length then fc i else fr0 i)) :
    BX p N (w.heap.size + 1) cap' (bankOf fs) (fun i => if i < 8 * fs.length then fc i else fr0 i) c w' (upd L (w.heap.size + 1) (some .row)) ∧ Lq (fun k => k = p) Lb.isOp w L w' (upd L (w.heap.size + 1) (some .row)) := by
  have hb := h.bx
  have hk : ∀ k l, L k = some l → w'.heap[k]? = w.heap[k]? := fun k l e => t.block k (hb.lt k (by rw [e]; simp)) (fun e => e)
  have hLn : L (w.heap.size + 1) = none := labNone hb.lt (by omega)
  have up : ∀ k l, L k = some l → upd L (w.heap.size + 1) (some .row) k = some l := fun k l e => by rw [upd_other _ _ (by rintro rfl; rw [hLn] at e; cases e)]; exact e
  obtain ⟨sp, hsp⟩ := hb.sp
  refine ⟨⟨hb.pc.kept (hk p _ hb.lp), up _ _ hb.lp, upd_same _ _ _, hcb, ⟨sp, hsp.kept (fun k e => by rcases e with e | ⟨i, e⟩ <;> exact hk k _ e) (fun k e => by rcases e with e | ⟨i, e⟩ <;> (rw [up k _ e, e]))⟩, fun j r hj => ?_, fun k hk' => ?_⟩, ⟨t.any, fun k l e _ => up k l e, fun k l e => ?_, fun k hk' e => by rw [upd_other _ _ (by omega)]; exact e⟩⟩
  · by_cases hjl : j < fs.length
    · obtain ⟨f, n, m, l, g1, g2⟩ := hb.bk j r hjl
      have hlt := bo_lt r hjl
      refine ⟨f, n, m, l, g1.kept (fun k l e1 _ => hk k l e1) (fun k l e _ => up k l e), ?_⟩
      refine bcs_of ?_ ?_ ?_
      · rw [if_pos (by omega), g2]; simp [bcs]
      · rw [if_pos (by omega), g2]; simp [bcs]
      · rw [if_pos (by omega), g2]; simp [bcs]
    · have e : bankOf fs j r = fun _ => none := by unfold bankOf; rw [List.getElem?_eq_none (by omega)]
      rw [e]
      have hge : 8 * fs.length ≤ bo j r := by unfold bo; omega
      obtain ⟨q1, q2, q3⟩ := fr0_bank j r
      exact ⟨none, none, none, fun _ => none, BK.empty _ _ _ _ _, bcs_of (by rw [if_neg (by omega)]; exact q1) (by rw [if_neg (by omega)]; exact q2) (by rw [if_neg (by omega)]; exact q3)⟩
  · by_cases e : k = w.heap.size + 1
    · omega
    · rw [upd_other _ _ e] at hk'
      have := hb.lt k hk'; omega
  · by_cases e' : k = w.heap.size + 1
    · subst e'; rw [upd_same] at e; cases e; exact ⟨by omega, .inl (.inr rfl)⟩
    · rw [upd_other _ _ e'] at e
      exact ⟨by have := hb.lt k (by rw [e]; simp); omega, .inr e⟩
end Go.Proofs.YtoidddfpekbliaaGreat
