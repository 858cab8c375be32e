/-
  word: what an instruction sets its register to: the heap's size; all kinds.
-/
import Derived.Test.YtoidddfpekbliaaGreatWJ23
import Derived.Test.YtoidddfpekbliaaGreatWValue4
import Derived.Test.YtoidddfpekbliaaGreatWCall4
import Derived.Test.YtoidddfpekbliaaGreatWJ06
import Derived.Test.YtoidddfpekbliaaGreatWJ07
import Derived.BigQuiet
namespace Go.Proofs.YtoidddfpekbliaaGreat
set_option linter.unusedSimpArgs false
set_option linter.unusedVariables false
open Go.RowKit
attribute [local go_sem ↓] Go.wp_at_zero Go.wp_at_succ

/-- what an instruction sets its register to, whether it doesn't stick, and what it does besides -/
noncomputable def PSt.val (X : PSt) (g : Fr) (q : RCode) (xs : Nat → Int) : Int × Bool × PSt :=
  if q.kind = 1 then (q.imm, true, X)
  else if q.kind = 2 then (xs 0, true, X)
  else if q.kind = 15 then (cond (holdsF q.how (xs 0) (xs 1)) 1 0, true, X)
  else if q.kind = 16 then (realF q.how (xs 0) (xs 1), true, X)
  else if q.kind = 17 then ((X.M.load (IntKind.u64.wrap (xs 0 + q.imm)) q.how).getD 0, (X.M.load (IntKind.u64.wrap (xs 0 + q.imm)) q.how).isSome, X)
  else if q.kind = 27 then (IntKind.u64.wrap (268435456 + q.imm), true, X)
  else if q.kind = 28 then (addrF q.to_, true, X)
  else if q.kind = 29 then ((X.M.sh : Int), true, X)
  else if q.kind = 30 then X.system q.imm (xs 0) (xs 1) (xs 2)
  else if q.kind = 31 then ((g.slots q.imm.toNat).getD 0, (g.slots q.imm.toNat).isSome, X)
  else if h : 0 ≤ xs 1 then (wordF q.kind (xs 0) (xs 1) h, wordG q.kind (xs 0) (xs 1) h, X)
  else (0, false, X)
/-- kinds that set a register by 'value' -/
def isVal (k : Nat) : Prop := (1 ≤ k ∧ k ≤ 17) ∨ (27 ≤ k ∧ k ≤ 31)

section
variable {p N fb pw : Nat} {R : List RFun} {strict : Bool} {X : PSt} {b cap : Nat} {vd vh : Value} {fc c : Nat → Value} {w : World} {L : Nat → Option Lb} {Lw : Nat → Option Lab} {fs : List Fr} {g : Fr}
variable {cb o xb : Nat} {q : RCode} {xs : Nat → Int} {vf : Value}

set_option maxHeartbeats 2000000 in
set_option maxRecDepth 100000 in
theorem value_heap (hp : PR p N fb pw R strict X b cap vd vh fc c w L Lw) (h : VI w cb o xb q xs) (hk : q.kind = 29) :
    Calls Tryz.prog 83 #[.pointer (some ⟨p, 0, none⟩), vf, .pointer (some ⟨cb, o, none⟩), .pointer (some ⟨xb, 0, none⟩)] w fun e w' => e = .returned (.tuple #[.int .u64 (X.M.sh : Int), .bool true]) ∧ Tn No w w' := by
  have cl := h.cl
  have k0 := h.q.k0
  rw [hk] at k0
  have plt := hp.ox.bx.pc.lt
  have k6 := hp.ox.bx.pc.cell 6 (by omega)
  rw [hp.mb.h.e1] at k6
  obtain ⟨sz, hsz⟩ : ∃ sz : Int, (X.M.sh : Int) = sz := ⟨_, rfl⟩
  rw [hsz] at k6 ⊢
  clear h hp hk hsz
  go_enter Tryz.func83, Tryz.ntmps83
  go_wp2
  go_ret2
  exact ⟨rfl, (by repeat (first | exact Tn.refl _ _ | apply Tn.drew | apply Tn.drewN | apply Tn.alloc | (refine Tn.then ?_ (by assumption)) | (refine Tn.thenNo ?_ (by assumption))))⟩

theorem PR.pqNoK {K : Nat} {w' : World} (hp : PR p N fb pw R strict X b cap vd vh fc c w L Lw) (hK : N ≤ K) (t : Tn No w w') : PQ b cap vd vh p K fb pw R strict X w L Lw w' :=
  ⟨L, Lw, fc, c, (hp.no t).mono hK, t.any, fun _ _ a b => ⟨a, b⟩, fun k e => ⟨t.block k (hp.lt k (by rw [e]; simp)) (fun e => e), e⟩⟩

theorem value_all {K : Nat} {rf : RFun} {at_ : Nat} (hwf : QWF R rf at_ q) (hp : PR p N fb pw R strict X b cap vd vh fc c w L Lw) (hf : X.fs = fs ++ [g]) (h : VI w cb o xb q xs) (hk : isVal q.kind) (hlc : L cb = some .prog) (hlx : L xb = none ∧ Lw xb = none) (hw : WF X.S) (hN : N ≤ 545460846592) (hxs : ∀ i, i < 5 → U64 (xs i)) (hNK : N + 2 ≤ K) (hK : ∀ n : Nat, n ≤ 2147483648 → X.M.there (xs 1) n = true → N + 2 * n + 4 ≤ K) :
    Calls Tryz.prog 83 #[.pointer (some ⟨p, 0, none⟩), .pointer (some ⟨b, fs.length * 8, none⟩), .pointer (some ⟨cb, o, none⟩), .pointer (some ⟨xb, 0, none⟩)] w fun e w' => e = .returned (.tuple #[.int .u64 (X.val g q xs).1, .bool (X.val g q xs).2.1]) ∧ PQ b cap vd vh p K fb pw R strict (X.val g q xs).2.2 w L Lw w' := by
  have x0 := hxs 0 (by omega)
  have x1 := hxs 1 (by omega)
  have x2 := hxs 2 (by omega)
  have hN' : N ≤ K := by omega
  have him := hwf.im
  have hw8 := hwf.hw
  have n1 := x1.1
  have word : (3 ≤ q.kind ∧ q.kind ≤ 14) → X.val g q xs = (wordF q.kind (xs 0) (xs 1) n1, wordG q.kind (xs 0) (xs 1) n1, X) := fun hh => by
    unfold PSt.val
    rw [if_neg (by omega), if_neg (by omega), if_neg (by omega), if_neg (by omega), if_neg (by omega), if_neg (by omega), if_neg (by omega), if_neg (by omega), if_neg (by omega), if_neg (by omega), dif_pos n1]
  have fin : ∀ {v : Int} {f : Bool} {X' : PSt}, X.val g q xs = (v, f, X') → X' = X → Calls Tryz.prog 83 #[.pointer (some ⟨p, 0, none⟩), .pointer (some ⟨b, fs.length * 8, none⟩), .pointer (some ⟨cb, o, none⟩), .pointer (some ⟨xb, 0, none⟩)] w (fun e w' => e = .returned (.tuple #[.int .u64 v, .bool f]) ∧ Tn No w w') →
      Calls Tryz.prog 83 #[.pointer (some ⟨p, 0, none⟩), .pointer (some ⟨b, fs.length * 8, none⟩), .pointer (some ⟨cb, o, none⟩), .pointer (some ⟨xb, 0, none⟩)] w fun e w' => e = .returned (.tuple #[.int .u64 (X.val g q xs).1, .bool (X.val g q xs).2.1]) ∧ PQ b cap vd vh p K fb pw R strict (X.val g q xs).2.2 w L Lw w' := by
    intro v f X' e1 e2 hc
    subst e2
    rw [e1]
    exact hc.mono (fun e w' z => ⟨z.1, hp.pqNoK hN' z.2⟩)
  have same : ∀ {Q : Ending → Prop}, Calls Tryz.prog 83 #[.pointer (some ⟨p, 0, none⟩), .pointer (some ⟨b, fs.length * 8, none⟩), .pointer (some ⟨cb, o, none⟩), .pointer (some ⟨xb, 0, none⟩)] w (fun e w' => Q e ∧ w' = w) → Calls Tryz.prog 83 #[.pointer (some ⟨p, 0, none⟩), .pointer (some ⟨b, fs.length * 8, none⟩), .pointer (some ⟨cb, o, none⟩), .pointer (some ⟨xb, 0, none⟩)] w (fun e w' => Q e ∧ Tn No w w') := fun hc => hc.mono (fun e w' z => ⟨z.1, by rw [z.2]; exact Tn.refl _ _⟩)
  have kinds : q.kind = 1 ∨ q.kind = 2 ∨ q.kind = 3 ∨ q.kind = 4 ∨ q.kind = 5 ∨ q.kind = 6 ∨ q.kind = 7 ∨ q.kind = 8 ∨ q.kind = 9 ∨ q.kind = 10 ∨ q.kind = 11 ∨ q.kind = 12 ∨ q.kind = 13 ∨ q.kind = 14 ∨ q.kind = 15 ∨ q.kind = 16 ∨ q.kind = 17 ∨ q.kind = 27 ∨ q.kind = 28 ∨ q.kind = 29 ∨ q.kind = 30 ∨ q.kind = 31 := by
    unfold isVal at hk; omega
  rcases kinds with e | e | e | e | e | e | e | e | e | e | e | e | e | e | e | e | e | e | e | e | e | e
  · exact fin (by unfold PSt.val; rw [if_pos e]) rfl (same (value_const h e))
  · exact fin (by unfold PSt.val; rw [if_neg (by omega), if_pos e]) rfl (same (value_move h e))
  · exact fin (word (by omega)) rfl (value_word3 h e n1)
  · exact fin (word (by omega)) rfl (value_word4 h e n1)
  · exact fin (word (by omega)) rfl (value_word5 h e n1)
  · exact fin (word (by omega)) rfl (value_word6 h e n1)
  · exact fin (word (by omega)) rfl (value_word7 h e n1)
  · exact fin (word (by omega)) rfl (value_word8 h e n1)
  · exact fin (word (by omega)) rfl (value_word9 h e n1)
  · exact fin (word (by omega)) rfl (value_word10 h e n1)
  · exact fin (word (by omega)) rfl (value_word11 h e n1)
  · exact fin (word (by omega)) rfl (value_word12 h e n1)
  · exact fin (word (by omega)) rfl (value_word13 h e n1)
  · exact fin (word (by omega)) rfl (value_word14 h e n1)
  · exact fin (by unfold PSt.val; rw [if_neg (by omega), if_neg (by omega), if_pos e]) rfl (value_set h e hw8)
  · exact fin (by unfold PSt.val; rw [if_neg (by omega), if_neg (by omega), if_neg (by omega), if_pos e]) rfl (value_real h e hw8)
  · exact fin (by unfold PSt.val; rw [if_neg (by omega), if_neg (by omega), if_neg (by omega), if_neg (by omega), if_pos e]) rfl (value_load hp h e (hwf.size (.inl e)))
  · exact fin (by unfold PSt.val; rw [if_neg (by omega), if_neg (by omega), if_neg (by omega), if_neg (by omega), if_neg (by omega), if_pos e]) rfl (same (value_data h e))
  · exact fin (by unfold PSt.val; rw [if_neg (by omega), if_neg (by omega), if_neg (by omega), if_neg (by omega), if_neg (by omega), if_neg (by omega), if_pos e]) rfl (same (value_func h e (hwf.fnc e)))
  · exact fin (by unfold PSt.val; rw [if_neg (by omega), if_neg (by omega), if_neg (by omega), if_neg (by omega), if_neg (by omega), if_neg (by omega), if_neg (by omega), if_pos e]) rfl (value_heap hp h e)
  · have ev : X.val g q xs = X.system q.imm (xs 0) (xs 1) (xs 2) := by unfold PSt.val; rw [if_neg (by omega), if_neg (by omega), if_neg (by omega), if_neg (by omega), if_neg (by omega), if_neg (by omega), if_neg (by omega), if_neg (by omega), if_pos e]
    obtain ⟨n, hn⟩ : ∃ n : Nat, xs 2 = (n : Int) := ⟨(xs 2).toNat, by have := x2.1; omega⟩
    have hs := value_sys (vf := .pointer (some ⟨b, fs.length * 8, none⟩)) (K := K) hp h e hlc hlx n hn hw hN ⟨x0.1, x0.2⟩ (by have := x2.2; omega) hNK (hK n)
    rw [ev, hn]
    exact hs
  · obtain ⟨i, hi⟩ : ∃ i : Nat, q.imm = (i : Int) := ⟨q.imm.toNat, by omega⟩
    have hs := value_get hp hf h e i hi (by omega)
    refine fin (v := (g.slots i).getD 0) (f := (g.slots i).isSome) ?_ rfl hs
    unfold PSt.val
    rw [if_neg (by omega), if_neg (by omega), if_neg (by omega), if_neg (by omega), if_neg (by omega), if_neg (by omega), if_neg (by omega), if_neg (by omega), if_neg (by omega), if_pos e, hi]
    rfl
end
end Go.Proofs.YtoidddfpekbliaaGreat
namespace Go.Proofs.YtoidddfpekbliaaGreat
set_option linter.unusedSimpArgs false
set_option linter.unusedVariables false
open Go.RowKit
attribute [local go_sem ↓] Go.wp_at_zero Go.wp_at_succ

/-- what an instruction has read -/
def xsOf (g : Fr) (q : RCode) (i : Nat) : Int := if i < q.count then (g.regs (q.frm i)).getD 0 else 0
/-- the words that are read, j of them -/
structure XA (xb : Nat) (xs : Nat → Int) (j : Nat) (wr : World) : Prop where
  lt : xb < wr.heap.size
  at' : ∀ i, i < 5 → wr.cell? ⟨xb, i, none⟩ = some (.int .u64 (if i < j then xs i else 0))
  fz : ∀ i, wr.frozen? ⟨xb, i, none⟩ = false
theorem XA.no {xb : Nat} {xs : Nat → Int} {j : Nat} {wr w' : World} (h : XA xb xs j wr) (t : Tn No wr w') : XA xb xs j w' :=
  ⟨Nat.lt_of_lt_of_le h.lt t.size, fun i hi => by rw [t.cell h.lt (fun e => e)]; exact h.at' i hi, fun i => by rw [t.frozen h.lt (fun e => e)]; exact h.fz i⟩
theorem XA.step {xb : Nat} {xs : Nat → Int} {j : Nat} {wr : World} (h : XA xb xs j wr) (hj : j < 5) : XA xb xs (j + 1) (wr.setCell ⟨xb, j, none⟩ (.int .u64 (xs j))) := by
  refine ⟨by simpa using h.lt, fun i hi => ?_, fun i => by rw [World.frozen?_setCell]; exact h.fz i⟩
  by_cases e : i = j
  · subst e
    rw [World.cell?_setCell_same _ _ _ (h.at' i hi), if_pos (by omega)]
  · rw [World.cell?_setCell_other _ _ _ _ (by simp [e]), h.at' i hi]
    by_cases hl : i < j
    · rw [if_pos hl, if_pos (by omega)]
    · rw [if_neg hl, if_neg (by omega)]
theorem XA.new (w : World) (T : TypeId) (xs : Nat → Int) : XA w.heap.size xs 0 (w.alloc (.cells #[.int .u64 0, .int .u64 0, .int .u64 0, .int .u64 0, .int .u64 0] T)) := by
  have hh := heap_alloc_new w (.cells #[.int .u64 0, .int .u64 0, .int .u64 0, .int .u64 0, .int .u64 0] T)
  refine ⟨by simp, fun i hi => ?_, fun i => by simp only [World.frozen?, hh]; simp⟩
  rw [World.cell?_alloc_new, if_neg (Nat.not_lt_zero _)]
  match i, hi with
  | 0, _ => rfl
  | 1, _ => rfl
  | 2, _ => rfl
  | 3, _ => rfl
  | 4, _ => rfl

section
variable {p N fb pw : Nat} {R : List RFun} {strict : Bool} {X : PSt} {b cap : Nat} {vd vh : Value} {fc c : Nat → Value} {w : World} {L : Nat → Option Lb} {Lw : Nat → Option Lab} {fs : List Fr} {g : Fr}
variable {rf : RFun} {q : RCode}

/-- all that a step looks up ahead of its reading -/
structure SI (p b fb n cb ccap ocap : Nat) (g : Fr) (rf : RFun) (q : RCode) (u : World) : Prop where
  ov : u.cell? ⟨p, 12, none⟩ = some (.slice (some ⟨b, 0, none⟩) (n + 1) ocap)
  pl : p < u.heap.size
  bl : b < u.heap.size
  fl : fb < u.heap.size
  cl : cb < u.heap.size
  f0 : u.cell? ⟨b, n * 8, none⟩ = some (.pointer (some ⟨fb, 3 * g.fn, none⟩))
  f1 : u.cell? ⟨b, n * 8 + 1, none⟩ = some (.int .i64 (g.at_ : Int))
  z1 : u.frozen? ⟨b, n * 8 + 1, none⟩ = false
  cd : u.cell? ⟨fb, 3 * g.fn + 2, none⟩ = some (.slice (some ⟨cb, 0, none⟩) rf.code.length ccap)
  q : CodeAt u cb (g.at_ * 11) q
theorem SI.no {n cb ccap ocap : Nat} {u u' : World} (h : SI p b fb n cb ccap ocap g rf q u) (t : Tn No u u') : SI p b fb n cb ccap ocap g rf q u' := by
  have hz := t.size
  have h1 := h.pl
  have h2 := h.bl
  have h3 := h.fl
  have h4 := h.cl
  exact ⟨by rw [t.cell h1 (fun e => e)]; exact h.ov, by omega, by omega, by omega, by omega, by rw [t.cell h2 (fun e => e)]; exact h.f0, by rw [t.cell h2 (fun e => e)]; exact h.f1, by rw [t.frozen h2 (fun e => e)]; exact h.z1, by rw [t.cell h3 (fun e => e)]; exact h.cd, h.q.kept (t.block _ h4 (fun e => e))⟩
theorem PR.si (h : PR p N fb pw R strict X b cap vd vh fc c w L Lw) (hf : X.fs = fs ++ [g]) (hg : R[g.fn]? = some rf) (hq : rf.code[g.at_]? = some q) :
    ∃ cb ccap ocap, SI p b fb fs.length cb ccap ocap g rf q w ∧ rf.code.length ≤ ccap ∧ fs.length + 1 ≤ ocap ∧ fs.length + 1 ≤ 1048576 ∧ L cb = some .prog := by
  obtain ⟨hl, hm⟩ := h.last hf
  obtain ⟨ocap, ho1, ho2⟩ := hl.ov
  obtain ⟨p1, p2, cb, ccap, p3, p4, p5, p6⟩ := h.pg.fn g.fn rf hg
  exact ⟨cb, ccap, ocap, ⟨ho1, h.ox.bx.pc.lt, hl.lt, h.lt fb (by rw [h.pg.lab]; simp), h.lt cb (by rw [p5]; simp), hl.k0, hl.k1, hl.f1, p3, p6 _ q hq⟩, p4, ho2, hm, p5⟩
theorem PR.rg (h : PR p N fb pw R strict X b cap vd vh fc c w L Lw) (hf : X.fs = fs ++ [g]) : (∀ i v, g.regs i = some v → U64 v) ∧ ∀ i v, g.slots i = some v → U64 v := by
  have ho := h.ox
  rw [hf] at ho
  have hl := ho.len
  simp only [List.length_append, List.length_cons, List.length_nil] at hl
  refine ⟨fun i v e => ?_, fun i v e => ?_⟩
  · obtain ⟨f, n, m, l, g1, _⟩ := ho.bx.bk fs.length false (by omega)
    rw [bankOf_last] at g1
    exact g1.rg i v e
  · obtain ⟨f, n, m, l, g1, _⟩ := ho.bx.bk fs.length true (by omega)
    rw [bankOf_last] at g1
    exact g1.rg i v e
theorem xsOf_ok (h : PR p N fb pw R strict X b cap vd vh fc c w L Lw) (hf : X.fs = fs ++ [g]) (q : RCode) (i : Nat) : U64 (xsOf g q i) := by
  unfold xsOf
  split
  · cases e : g.regs (q.frm i) with
    | none => exact ⟨by simp, by simp⟩
    | some v => exact (h.rg hf).1 _ v e
  · exact ⟨by omega, by omega⟩
theorem PR.gets (h : PR p N fb pw R strict X b cap vd vh fc c w L Lw) (hf : X.fs = fs ++ [g]) (u : World) (t : Tn No w u) (i : Nat) (hi : i < 18446744073709551616) :
    Calls Tryz.prog 78 #[.pointer (some ⟨b, fs.length * 8 + 2, none⟩), .int .u64 (i : Int)] u fun e w' => e = .returned (.tuple #[.int .u64 ((g.regs i).getD 0), .bool (g.regs i).isSome]) ∧ w' = u := by
  have hlen := h.ox.len
  rw [hf] at hlen
  simp only [List.length_append, List.length_cons, List.length_nil] at hlen
  have hg := get_bx (h.no t).ox.bx fs.length false (by omega) i hi
  rw [hf, bankOf_last] at hg
  have e : bo fs.length false = fs.length * 8 + 2 := by unfold bo; simp; omega
  rw [e] at hg
  exact hg
end
end Go.Proofs.YtoidddfpekbliaaGreat
namespace Go.Proofs.YtoidddfpekbliaaGreat
set_option linter.unusedSimpArgs false
set_option linter.unusedVariables false
open Go.RowKit

section
variable {p N fb pw : Nat} {R : List RFun} {strict : Bool} {X : PSt} {b cap : Nat} {vd vh : Value} {fc c : Nat → Value} {w : World} {L : Nat → Option Lb} {Lw : Nat → Option Lab} {fs : List Fr} {g : Fr}
variable {rf : RFun} {q : RCode}

/-- behind what leaves the frames where they lay the place goes on -/
theorem PQ.inc {K : Nat} {X' : PSt} {w' : World} (h : PQ b cap vd vh p K fb pw R strict X' w L Lw w') (hf : X'.fs = fs ++ [g]) :
    (w'.cell? ⟨b, fs.length * 8 + 1, none⟩ = some (.int .i64 (g.at_ : Int)) ∧ w'.frozen? ⟨b, fs.length * 8 + 1, none⟩ = false ∧ b < w'.heap.size) ∧ ∀ u, Tn No w' u → PL p K fb pw R strict { X' with fs := fs ++ [{ g with at_ := g.at_ + 1 }] } w L Lw (u.setCell ⟨b, fs.length * 8 + 1, none⟩ (.int .i64 ((g.at_ : Int) + 1))) := by
  obtain ⟨L', Lw', fc', c', g1, g2, g3, g4⟩ := h
  obtain ⟨hl, _⟩ := g1.last hf
  refine ⟨⟨hl.k1, hl.f1, hl.lt⟩, fun u t => ?_⟩
  have := ((g1.no t).setAt hf (g.at_ + 1)).pl
  rw [show ((g.at_ + 1 : Nat) : Int) = (g.at_ : Int) + 1 by omega] at this
  exact (this.trans t.any (fun _ _ a b => ⟨a, b⟩)).trans g2 g3
theorem PQ.then_no {K : Nat} {X' : PSt} {w' u : World} (h : PQ b cap vd vh p K fb pw R strict X' w L Lw w') (t : Tn No w' u) : PL p K fb pw R strict X' w L Lw u := h.pl.no t
/-- a new block is neither the process's nor its world's -/
theorem PR.newb (h : PR p N fb pw R strict X b cap vd vh fc c w L Lw) : L w.heap.size = none ∧ Lw w.heap.size = none := by
  refine ⟨?_, ?_⟩
  · cases e : L w.heap.size with
    | none => rfl
    | some l => have := h.lt w.heap.size (by rw [e]; simp); omega
  · cases e : Lw w.heap.size with
    | none => rfl
    | some l => have := h.pw.lt w.heap.size (by rw [e]; simp); omega
/-- a cell of the last call's bank is set, by PQ -/
theorem PR.putQ (h : PR p N fb pw R strict X b cap vd vh fc c w L Lw) (hf : X.fs = fs ++ [g]) (r : Bool) (hN : N < 4611686018427387904) (i : Nat) (hi : i < 18446744073709551616) (x : Int) (hx : U64 x) :
    Calls Tryz.prog 82 #[.pointer (some ⟨b, bo fs.length r, none⟩), .int .u64 (i : Int), .int .u64 x, .pointer (some ⟨p, 13, none⟩)] w fun e w' => e = .returned (.tuple #[]) ∧ PQ b cap vd vh p (N + 1) fb pw R strict { X with fs := fs ++ [g.setBank r (upd (cond r g.slots g.regs) i (some x))] } w L Lw w' := by
  have ho := h.ox
  rw [hf] at ho
  have hl := ho.len
  simp at hl
  refine (put_bx ho.bx fs.length r (by omega) hN i hi x ⟨hx.1, hx.2⟩).mono ?_
  rintro e w' ⟨rfl, hb⟩
  rw [bankOf_last] at hb
  obtain ⟨L', fc', c', g1, g2, g3⟩ := ho.setLast hb
  obtain ⟨z1, z2, z3, z4⟩ := h.openX (Nat.le_succ N) g1 g2 (fun i _ h2 => g3 i h2)
  exact ⟨rfl, L', Lw, fc', c', z1, z2, z3, fun k e => ⟨z4 k e, g2.old k _ e isOp_prog⟩⟩
end
end Go.Proofs.YtoidddfpekbliaaGreat
namespace Go.Proofs.YtoidddfpekbliaaGreat
set_option linter.unusedSimpArgs false
set_option linter.unusedVariables false
open Go.RowKit

section
variable {p N fb pw : Nat} {R : List RFun} {strict : Bool} {X : PSt} {b cap : Nat} {vd vh : Value} {fc c : Nat → Value} {w : World} {L : Nat → Option Lb} {Lw : Nat → Option Lab} {fs : List Fr} {g : Fr}
variable {rf : RFun} {q : RCode} {xs : Nat → Int}

theorem scan_err (M : Mem) (x : Int) : ∀ (k i : Nat) (l : List UInt8) (e : Int), (scan M x k i l).1 = some e → U64 e := by
  intro k
  induction k with
  | zero => intro i l e h; simp [scan] at h; subst h; exact ⟨by omega, by omega⟩
  | succ k ih =>
    intro i l e h
    unfold scan at h
    split at h
    · simp at h; subst h; exact ⟨by omega, by omega⟩
    · split at h
      · simp at h
      · exact ih _ _ _ h
/-- what stays of a process, and its world is whole -/
structure Keeps (X X' : PSt) : Prop where
  fs : X'.fs = X.fs
  sd : X'.M.sd = X.M.sd
  sh : X'.M.sh = X.M.sh
  steps : X'.steps = X.steps
  entered : X'.entered = X.entered
  wf : WF X.S → WF X'.S
theorem Keeps.refl (X : PSt) : Keeps X X := ⟨rfl, rfl, rfl, rfl, rfl, id⟩
theorem store_sizes {M M' : Mem} {x s y : Int} (h : M.store x s y = some M') : M'.sd = M.sd ∧ M'.sh = M.sh := by
  unfold Mem.store at h
  cases e : partOf M x s with
  | none => rw [e] at h; cases h
  | some a =>
    rw [e] at h
    simp only [Option.map_some, Option.some.injEq] at h
    subst h
    cases a <;> exact ⟨rfl, rfl⟩
theorem storeD_sizes (M : Mem) (x s y : Int) : ((M.store x s y).getD M).sd = M.sd ∧ ((M.store x s y).getD M).sh = M.sh := by
  cases e : M.store x s y with
  | none => exact ⟨rfl, rfl⟩
  | some M' => exact store_sizes e
theorem stb_sizes (M : Mem) (x : Int) (l : List UInt8) (k : Nat) : (stb M x l k).sd = M.sd ∧ (stb M x l k).sh = M.sh := by
  induction k with
  | zero => exact ⟨rfl, rfl⟩
  | succ k ih =>
    have := storeD_sizes (stb M x l k) (IntKind.u64.wrap (x + (k : Int))) 1 (((l[k]?).getD 0).toNat : Int)
    unfold stb
    exact ⟨this.1.trans ih.1, this.2.trans ih.2⟩
theorem wf_sread {S : St} (h : WF S) (fd : Int) (n : Nat) : WF (S.sread fd n) := by
  unfold St.sread
  split
  · exact wf_read h _
  · split
    · rename_i h4
      exact wf_de h _ _ (fun e => by simp only at e; omega)
    · exact h
theorem u64_lit {n : Int} (h0 : 0 ≤ n) (h1 : n ≤ 18446744073709551615) : U64 n := ⟨h0, h1⟩
theorem sysRead_keeps (X : PSt) (fd x n : Int) : Keeps X (X.sysRead fd x n).2 ∧ U64 (X.sysRead fd x n).1 := by
  unfold PSt.sysRead
  split
  · exact ⟨Keeps.refl X, u64_lit (by omega) (by omega)⟩
  · split
    · exact ⟨Keeps.refl X, u64_lit (by omega) (by omega)⟩
    · exact ⟨⟨rfl, (stb_sizes _ _ _ _).1, (stb_sizes _ _ _ _).2, rfl, rfl, fun h => wf_sread h _ _⟩, u64_of_wrap _⟩
theorem sysWrite_keeps (X : PSt) (fd x n : Int) : Keeps X (X.sysWrite fd x n).2 ∧ U64 (X.sysWrite fd x n).1 := by
  unfold PSt.sysWrite
  split
  · exact ⟨Keeps.refl X, u64_lit (by omega) (by omega)⟩
  · split
    · exact ⟨Keeps.refl X, u64_lit (by omega) (by omega)⟩
    · split
      · exact ⟨⟨rfl, rfl, rfl, rfl, rfl, fun h => wf_write h _ _⟩, u64_of_wrap _⟩
      · exact ⟨⟨rfl, rfl, rfl, rfl, rfl, fun h => wf_write (wf_write h _ _) _ _⟩, u64_of_wrap _⟩
theorem sysOpen_keeps (X : PSt) (x fl : Int) : Keeps X (X.sysOpen x fl).2 ∧ U64 (X.sysOpen x fl).1 := by
  unfold PSt.sysOpen
  split
  · rename_i e l h
    exact ⟨Keeps.refl X, scan_err X.M x 256 0 [] e (by rw [h])⟩
  · exact ⟨⟨rfl, rfl, rfl, rfl, rfl, fun h => wf_open h _ _⟩, u64_of_wrap _⟩
/-- a system call leaves the calls as they were, and answers a word -/
theorem system_keeps (X : PSt) (nr x y z : Int) : Keeps X (X.system nr x y z).2.2 ∧ U64 (X.system nr x y z).1 ∧ ((X.system nr x y z).2.1 = false → (X.system nr x y z).2.2 = X) := by
  unfold PSt.system
  split
  · exact ⟨(sysRead_keeps X x y z).1, (sysRead_keeps X x y z).2, fun h => by cases h⟩
  · split
    · exact ⟨(sysWrite_keeps X x y z).1, (sysWrite_keeps X x y z).2, fun h => by cases h⟩
    · split
      · exact ⟨(sysOpen_keeps X x y).1, (sysOpen_keeps X x y).2, fun h => by cases h⟩
      · split
        · exact ⟨⟨rfl, rfl, rfl, rfl, rfl, fun h => wf_close h _⟩, u64_of_wrap _, fun h => by cases h⟩
        · split
          · exact ⟨⟨rfl, rfl, rfl, rfl, rfl, id⟩, u64_lit (by omega) (by omega), fun h => by cases h⟩
          · exact ⟨Keeps.refl X, u64_lit (by omega) (by omega), fun _ => rfl⟩
theorem ldv_ok (m : Nat → Int) (f : Nat) (s : Int) : U64 (ldv m f s) := by
  unfold ldv
  split
  · exact u64_bits _ _ _
  · exact u64_bits _ _ _
theorem getD_ok {α : Type} (F : α → Int) (hF : ∀ a, U64 (F a)) (o : Option α) : U64 ((o.map F).getD 0) := by
  cases o with
  | none => exact u64_zero
  | some a => exact hF a
theorem load_ok (M : Mem) (x s : Int) : U64 ((M.load x s).getD 0) := getD_ok _ (fun _ => ldv_ok _ _ _) _
/-- what 'value' says is a word, and leaves the calls as they were -/
theorem val_keeps (h : PR p N fb pw R strict X b cap vd vh fc c w L Lw) (hf : X.fs = fs ++ [g]) (him : U64 q.imm) (hxs : ∀ i, i < 5 → U64 (xs i)) : Keeps X (X.val g q xs).2.2 ∧ U64 (X.val g q xs).1 ∧ ((X.val g q xs).2.1 = false → (X.val g q xs).2.2 = X) := by
  have hsh := h.mb.bh
  have hsl := (h.rg hf).2
  have k := Keeps.refl X
  have hsz : U64 ((X.M.sh : Nat) : Int) := ⟨by omega, by omega⟩
  have hsl2 : U64 ((g.slots q.imm.toNat).getD 0) := by
    cases e : g.slots q.imm.toNat with
    | none => exact u64_zero
    | some v => exact hsl _ v e
  by_cases e1 : q.kind = 1
  · have ev : X.val g q xs = (q.imm, true, X) := by unfold PSt.val; rw [if_pos e1]
    rw [ev]
    exact ⟨k, him, fun _ => rfl⟩
  by_cases e2 : q.kind = 2
  · have ev : X.val g q xs = (xs 0, true, X) := by unfold PSt.val; rw [if_neg e1, if_pos e2]
    rw [ev]
    exact ⟨k, hxs 0 (by omega), fun _ => rfl⟩
  by_cases e15 : q.kind = 15
  · have ev : X.val g q xs = (cond (holdsF q.how (xs 0) (xs 1)) 1 0, true, X) := by unfold PSt.val; rw [if_neg e1, if_neg e2, if_pos e15]
    rw [ev]
    exact ⟨k, u64_cond _, fun _ => rfl⟩
  by_cases e16 : q.kind = 16
  · have ev : X.val g q xs = (realF q.how (xs 0) (xs 1), true, X) := by unfold PSt.val; rw [if_neg e1, if_neg e2, if_neg e15, if_pos e16]
    rw [ev]
    exact ⟨k, realF_ok _ _ _, fun _ => rfl⟩
  by_cases e17 : q.kind = 17
  · have ev : X.val g q xs = ((X.M.load (IntKind.u64.wrap (xs 0 + q.imm)) q.how).getD 0, (X.M.load (IntKind.u64.wrap (xs 0 + q.imm)) q.how).isSome, X) := by unfold PSt.val; rw [if_neg e1, if_neg e2, if_neg e15, if_neg e16, if_pos e17]
    rw [ev]
    exact ⟨k, load_ok _ _ _, fun _ => rfl⟩
  by_cases e27 : q.kind = 27
  · have ev : X.val g q xs = (IntKind.u64.wrap (268435456 + q.imm), true, X) := by unfold PSt.val; rw [if_neg e1, if_neg e2, if_neg e15, if_neg e16, if_neg e17, if_pos e27]
    rw [ev]
    exact ⟨k, u64_of_wrap _, fun _ => rfl⟩
  by_cases e28 : q.kind = 28
  · have ev : X.val g q xs = (addrF q.to_, true, X) := by unfold PSt.val; rw [if_neg e1, if_neg e2, if_neg e15, if_neg e16, if_neg e17, if_neg e27, if_pos e28]
    rw [ev]
    exact ⟨k, addrF_ok _, fun _ => rfl⟩
  by_cases e29 : q.kind = 29
  · have ev : X.val g q xs = ((X.M.sh : Int), true, X) := by unfold PSt.val; rw [if_neg e1, if_neg e2, if_neg e15, if_neg e16, if_neg e17, if_neg e27, if_neg e28, if_pos e29]
    rw [ev]
    exact ⟨k, hsz, fun _ => rfl⟩
  by_cases e30 : q.kind = 30
  · have ev : X.val g q xs = X.system q.imm (xs 0) (xs 1) (xs 2) := by unfold PSt.val; rw [if_neg e1, if_neg e2, if_neg e15, if_neg e16, if_neg e17, if_neg e27, if_neg e28, if_neg e29, if_pos e30]
    rw [ev]
    exact system_keeps X _ _ _ _
  by_cases e31 : q.kind = 31
  · have ev : X.val g q xs = ((g.slots q.imm.toNat).getD 0, (g.slots q.imm.toNat).isSome, X) := by unfold PSt.val; rw [if_neg e1, if_neg e2, if_neg e15, if_neg e16, if_neg e17, if_neg e27, if_neg e28, if_neg e29, if_neg e30, if_pos e31]
    rw [ev]
    exact ⟨k, hsl2, fun _ => rfl⟩
  have n1 := (hxs 1 (by omega)).1
  have ev : X.val g q xs = (wordF q.kind (xs 0) (xs 1) n1, wordG q.kind (xs 0) (xs 1) n1, X) := by unfold PSt.val; rw [if_neg e1, if_neg e2, if_neg e15, if_neg e16, if_neg e17, if_neg e27, if_neg e28, if_neg e29, if_neg e30, if_neg e31, dif_pos n1]
  rw [ev]
  exact ⟨k, wordF_ok n1 (hxs 0 (by omega)) (hxs 1 (by omega)), fun _ => rfl⟩
end
end Go.Proofs.YtoidddfpekbliaaGreat
namespace Go.Proofs.YtoidddfpekbliaaGreat
set_option linter.unusedSimpArgs false
set_option linter.unusedVariables false
open Go.RowKit
attribute [local go_sem ↓] Go.wp_at_zero Go.wp_at_succ

section
variable {p N fb pw : Nat} {R : List RFun} {strict : Bool} {X : PSt} {b cap : Nat} {vd vh : Value} {fc c : Nat → Value} {w : World} {L : Nat → Option Lb} {Lw : Nat → Option Lab} {fs : List Fr} {g : Fr}
variable {rf : RFun} {q : RCode}

set_option maxHeartbeats 8000000 in
set_option maxRecDepth 100000 in
theorem step_jump (hR : RWF R) (h : PR p N fb pw R strict X b cap vd vh fc c w L Lw) (hf : X.fs = fs ++ [g]) (hg : R[g.fn]? = some rf) (hq : rf.code[g.at_]? = some q) (hset : ∀ i, i < q.count → (g.regs (q.frm i)).isSome = true) (hk : q.kind = 20) : Calls Tryz.prog 48 #[.pointer (some ⟨p, 0, none⟩)] w fun e w' => e = .returned (.bool true) ∧ PL p N fb pw R strict { X with fs := fs ++ [{ g with at_ := q.to_.toNat }] } w L Lw w' := by
  have hwf := (hR.fn g.fn rf hg).2.2.2 g.at_ q hq
  have hcl := (hR.fn g.fn rf hg).2.2.1
  obtain ⟨cb, ccap, ocap, hsi, hcc, hoc, hmost, hlc⟩ := h.si hf hg hq
  have hat : g.at_ < rf.code.length := (List.getElem?_eq_some_iff.1 hq).1
  have hcnt := hwf.cnt
  have HSI : Hid (∀ u, Tn No w u → SI p b fb fs.length cb ccap ocap g rf q u) := hid (fun u t => hsi.no t)
  have HXN : Hid (∀ u, Tn No w u → u.heap.size = w.heap.size → XA w.heap.size (xsOf g q) 0 (u.alloc (.cells #[.int .u64 0, .int .u64 0, .int .u64 0, .int .u64 0, .int .u64 0] 182))) := hid (fun u t e => by rw [← e]; exact XA.new u _ _)

  have HGET : Hid (∀ u j, Tn No w u → j < q.count → Calls Tryz.prog 78 #[.pointer (some ⟨b, fs.length * 8 + 2, none⟩), .int .u64 (q.frm j : Int)] u fun e w' => e = .returned (.tuple #[.int .u64 (xsOf g q j), .bool true]) ∧ w' = u) := hid (fun u j t hj => by
    have := h.gets hf u t (q.frm j) (by have := hwf.fr j (by omega); omega)
    rw [hset j hj] at this
    have e : xsOf g q j = (g.regs (q.frm j)).getD 0 := by unfold xsOf; rw [if_pos hj]
    rw [e]
    exact this)

  obtain ⟨m, hto, hm⟩ := hwf.to' (.inl hk)
  have HJ : Hid (∀ u, Tn No w u → PL p N fb pw R strict { X with fs := fs ++ [{ g with at_ := m }] } w L Lw (u.setCell ⟨b, fs.length * 8 + 1, none⟩ (.int .i64 (m : Int)))) := hid (fun u t => ((h.no t).setAt hf m).pl.trans t.any (fun _ _ a b => ⟨a, b⟩))
  have et : q.to_.toNat = m := by rw [hto]; rfl
  rw [et]
  have HTO := hid hto
  have hm4 : (m : Int) ≤ 4194304 := by omega

  obtain ⟨xs, hxs⟩ : ∃ xs, xsOf g q = xs := ⟨_, rfl⟩
  have hx0 : ∀ i, q.count ≤ i → xs i = 0 := fun i hi => by rw [← hxs]; unfold xsOf; rw [if_neg (by omega)]
  have hfr := hwf.fr

  rw [hxs] at HGET HXN
  obtain ⟨n, hn⟩ : ∃ n, fs.length = n := ⟨_, rfl⟩
  obtain ⟨cl, hc⟩ : ∃ cl, rf.code.length = cl := ⟨_, rfl⟩
  obtain ⟨a, ha⟩ : ∃ a, g.at_ = a := ⟨_, rfl⟩
  obtain ⟨cnt, hct⟩ : ∃ cnt, q.count = cnt := ⟨_, rfl⟩
  obtain ⟨fn, hfn⟩ : ∃ fn, g.fn = fn := ⟨_, rfl⟩
  obtain ⟨frm, hfm⟩ : ∃ frm, q.frm = frm := ⟨_, rfl⟩
  have s0 := (HSI.out w (Tn.refl _ _)).ov
  have s1 := (HSI.out w (Tn.refl _ _)).pl
  have s2 := (HSI.out w (Tn.refl _ _)).bl
  have s3 := (HSI.out w (Tn.refl _ _)).fl
  have s4 := (HSI.out w (Tn.refl _ _)).cl
  have s5 := (HSI.out w (Tn.refl _ _)).f0
  have s6 := (HSI.out w (Tn.refl _ _)).f1
  have s7 := (HSI.out w (Tn.refl _ _)).cd
  have s8 : ∀ k, ((w.drewN k).alloc (.cells #[.int .u64 0, .int .u64 0, .int .u64 0, .int .u64 0, .int .u64 0] 182)).cell? ⟨cb, g.at_ * 11 + 2, none⟩ = some (.int .u8 (q.count : Int)) := fun k => (HSI.out _ (((Tn.refl No w).drewN k).alloc _)).q.k2
  rw [hn] at s0 s5 s6 hoc hmost
  rw [hfn] at s5 s7
  rw [ha] at s6 s8 hat
  rw [hc] at s7 hcl hcc hat
  rw [hct] at s8 hcnt hx0
  rw [hfm] at hfr
  have a0 : (0 : Int) ≤ (n : Int) := by omega
  have y3' : (n : Int) ≤ 1048575 := by omega
  have y4' : (n : Int) ≤ 4611686018427387904 := Int.le_trans y3' (by decide)
  have b0 : (0 : Int) ≤ (a : Int) := by omega
  have b1' : (a : Int) < (cl : Int) := by omega
  have b2 : (cl : Int) ≤ 4194304 := by omega
  have ci : (cnt : Int) ≤ 5 := by omega
  have a1 : (n : Int) < (n : Int) + 1 := by omega
  have a2 : ((n + 1 : Nat) : Int) - 1 = (n : Int) := by omega
  have w0 := wrap64_small (n : Int) a0 y4'
  have w1' := wrapi_small (n : Int) a0 y4'
  have w2' : IntKind.i64.wrap ((n : Int) + 1 - 1) = n := by rw [Int.add_sub_cancel]; exact w1'

  have HNM := hid (And.intro hn (And.intro hfn (And.intro ha hfm)))
  have HCT := hid hct
  have HKD := hid hk
  clear hwf hR h hf hg hq hset hsi hxs hn hc ha hct hfn hfm hlc hk
  go_enter Tryz.func48, Tryz.ntmps48
  go_wp2_with fail
  go_quiet (fail)
  go_wp2_with fail
  go_quiet (fail)
  go_wp2_with fail

  clear s0 s5 s6 s7 s8 w0 w1' w2' a1 a2 s1 s2 s3 s4
  go_loopw [6, 7, 8, 38] (fun _ _ _ i wr => ∃ j : Nat, j ≤ cnt ∧ i = .int .u8 (j : Int) ∧ Tn No w wr ∧ XA w.heap.size xs j wr) (fun _ _ _ i _ => cnt - (intOf i).toNat)
  case atStart => exact ⟨0, by omega, rfl, (by repeat (first | exact Tn.refl _ _ | apply Tn.drew | apply Tn.drewN | apply Tn.alloc | (refine Tn.then ?_ (by assumption)) | (refine Tn.thenNo ?_ (by assumption)))), HXN.out _ (by repeat (first | exact Tn.refl _ _ | apply Tn.drew | apply Tn.drewN | apply Tn.alloc | (refine Tn.then ?_ (by assumption)) | (refine Tn.thenNo ?_ (by assumption)))) rfl⟩
  case round =>
    obtain ⟨j, hj, rfl, twr, hxa⟩ := hrel
    by_cases hlt : j < cnt
    · have hsw := HSI.out wr twr
      have t0 := hsw.f0
      have t1 := hsw.bl
      have t2 := hsw.cl
      have t3 := hsw.q.k6 j (by omega)
      rw [HNM.out.1] at t0
      rw [HNM.out.2.1] at t0
      rw [HNM.out.2.2.1, HNM.out.2.2.2] at t3
      have HG := hid (fun u t => HGET.out u j (twr.then t) (by have := HCT.out; omega))
      rw [HNM.out.1, HNM.out.2.2.2] at HG
      have x0 := hxa.at' j (by omega)
      rw [if_neg (by omega)] at x0
      have x1 := hxa.lt
      have x2 := hxa.fz j
      have HST := hid (fun u (t : Tn No wr u) => (hxa.no t).step (j := j) (by omega))
      have HTW := hid twr
      have j1 : (j : Int) < (cnt : Int) := by omega
      have j2 : (j : Int) < 5 := by omega
      have j3 : (0 : Int) ≤ (frm j : Int) := by omega
      have j4 : (frm j : Int) ≤ 4294967295 := by have := hfr j (by omega); omega
      have j5 := wrapu_small (frm j : Int) j3 (by omega)
      clear hsw hxa twr
      go_wp2_with fail
      go_quiet ((go_at_call 78; exact Calls.quiet_of_same (HG.out _ (by repeat (first | exact Tn.refl _ _ | apply Tn.drew | apply Tn.drewN | apply Tn.alloc | (refine Tn.then ?_ (by assumption)) | (refine Tn.thenNo ?_ (by assumption)))))))
      go_wp2_with fail
      go_roundw
      case rel => exact ⟨j + 1, by omega, by go_num, ((HTW.out.drewN _).set _ _ (by intro h; simp at h)), HST.out _ ((Tn.refl No wr).drewN _)⟩
      case measure => simp [intOf]; omega
    · obtain rfl : j = cnt := by omega
      have hsw := HSI.out wr twr
      have hxi : ∀ i, i < 5 → wr.cell? ⟨w.heap.size, i, none⟩ = some (.int .u64 (xs i)) := fun i hi => by
        rw [hxa.at' i hi]
        by_cases e : i < j
        · rw [if_pos e]
        · rw [if_neg e, hx0 i (by omega)]
      have HTW := hid twr
      have t0 := hsw.f0
      have t1 := hsw.f1
      have t2 := hsw.z1
      have t3 := hsw.bl
      have t4 := hsw.cl
      have t5 := hsw.q.k0
      rw [HNM.out.1, HNM.out.2.1] at t0
      rw [HNM.out.1, HNM.out.2.2.1] at t1
      rw [HNM.out.1] at t2
      rw [HNM.out.2.2.1, HKD.out] at t5
      have xl := hxa.lt

      have t6 := hsw.q.k4
      rw [HNM.out.2.2.1, HTO.out] at t6
      rw [HNM.out.1] at HJ
      have m0 : (0 : Int) ≤ (m : Int) := by omega
      have m1 := wrapi_small (m : Int) m0 (by omega)
      have m2 := wrap64_small (m : Int) m0 (by omega)
      clear hsw hxa twr hxi HGET HXN HSI
      go_wp2
      go_ret
      exact ⟨rfl, HJ.out _ HTW.out⟩
end
end Go.Proofs.YtoidddfpekbliaaGreat
namespace Go.Proofs.YtoidddfpekbliaaGreat
set_option linter.unusedSimpArgs false
set_option linter.unusedVariables false
open Go.RowKit
attribute [local go_sem ↓] Go.wp_at_zero Go.wp_at_succ

section
variable {p N fb pw : Nat} {R : List RFun} {strict : Bool} {X : PSt} {b cap : Nat} {vd vh : Value} {fc c : Nat → Value} {w : World} {L : Nat → Option Lb} {Lw : Nat → Option Lab} {fs : List Fr} {g : Fr}
variable {rf : RFun} {q : RCode}

set_option maxHeartbeats 8000000 in
set_option maxRecDepth 100000 in
theorem step_branch (hR : RWF R) (h : PR p N fb pw R strict X b cap vd vh fc c w L Lw) (hf : X.fs = fs ++ [g]) (hg : R[g.fn]? = some rf) (hq : rf.code[g.at_]? = some q) (hset : ∀ i, i < q.count → (g.regs (q.frm i)).isSome = true) (hk : q.kind = 21) (hH : holdsF q.how (xsOf g q 0) (xsOf g q 1) = true) : Calls Tryz.prog 48 #[.pointer (some ⟨p, 0, none⟩)] w fun e w' => e = .returned (.bool true) ∧ PL p N fb pw R strict { X with fs := fs ++ [{ g with at_ := q.to_.toNat }] } w L Lw w' := by
  have hwf := (hR.fn g.fn rf hg).2.2.2 g.at_ q hq
  have hcl := (hR.fn g.fn rf hg).2.2.1
  obtain ⟨cb, ccap, ocap, hsi, hcc, hoc, hmost, hlc⟩ := h.si hf hg hq
  have hat : g.at_ < rf.code.length := (List.getElem?_eq_some_iff.1 hq).1
  have hcnt := hwf.cnt
  have HSI : Hid (∀ u, Tn No w u → SI p b fb fs.length cb ccap ocap g rf q u) := hid (fun u t => hsi.no t)
  have HXN : Hid (∀ u, Tn No w u → u.heap.size = w.heap.size → XA w.heap.size (xsOf g q) 0 (u.alloc (.cells #[.int .u64 0, .int .u64 0, .int .u64 0, .int .u64 0, .int .u64 0] 182))) := hid (fun u t e => by rw [← e]; exact XA.new u _ _)

  have HGET : Hid (∀ u j, Tn No w u → j < q.count → Calls Tryz.prog 78 #[.pointer (some ⟨b, fs.length * 8 + 2, none⟩), .int .u64 (q.frm j : Int)] u fun e w' => e = .returned (.tuple #[.int .u64 (xsOf g q j), .bool true]) ∧ w' = u) := hid (fun u j t hj => by
    have := h.gets hf u t (q.frm j) (by have := hwf.fr j (by omega); omega)
    rw [hset j hj] at this
    have e : xsOf g q j = (g.regs (q.frm j)).getD 0 := by unfold xsOf; rw [if_pos hj]
    rw [e]
    exact this)

  obtain ⟨m, hto, hm⟩ := hwf.to' (.inr hk)
  have hcb : cb ≠ b := by rintro rfl; rw [h.ox.bx.lb] at hlc; cases hlc
  have HJ : Hid (∀ u, Tn No w u → (∀ u2, Tn No (u.setCell ⟨b, fs.length * 8 + 1, none⟩ (.int .i64 ((g.at_ : Int) + 1))) u2 → PL p N fb pw R strict { X with fs := fs ++ [{ g with at_ := g.at_ + 1 }] } w L Lw u2) ∧ ∀ u2, Tn No (u.setCell ⟨b, fs.length * 8 + 1, none⟩ (.int .i64 ((g.at_ : Int) + 1))) u2 → PL p N fb pw R strict { X with fs := fs ++ [{ g with at_ := m }] } w L Lw (u2.setCell ⟨b, fs.length * 8 + 1, none⟩ (.int .i64 (m : Int)))) := hid (fun u t => by
    have hpk := (h.no t).setAt hf (g.at_ + 1)
    rw [show ((g.at_ + 1 : Nat) : Int) = (g.at_ : Int) + 1 by omega] at hpk
    obtain ⟨L1, fc1, c1, g1, g2, g3, _⟩ := hpk
    refine ⟨fun u2 t2 => (g1.plNo t2).trans (t.any.then g2) (fun k hk a b => g3 k (Nat.lt_of_lt_of_le hk t.size) a b), fun u2 t2 => ?_⟩
    exact (((g1.no t2).setAt (fs := fs) (g := { g with at_ := g.at_ + 1 }) rfl m).pl.trans t2.any (fun _ _ a b => ⟨a, b⟩)).trans (t.any.then g2) (fun k hk a b => g3 k (Nat.lt_of_lt_of_le hk t.size) a b))
  have et : q.to_.toNat = m := by rw [hto]; rfl
  rw [et]
  have HTO := hid hto
  have hm4 : (m : Int) ≤ 4194304 := by omega
  have HHO : Hid (∀ u, Calls Tryz.prog 79 #[.int .i64 (q.how : Int), .int .u64 (xsOf g q 0), .int .u64 (xsOf g q 1)] u fun e w' => e = .returned (.bool true) ∧ w' = u) := hid (fun u => by rw [← hH]; exact holdsF_raw _ _ _ u)
  have hh8 := hwf.hw
  clear et
  obtain ⟨xs, hxs⟩ : ∃ xs, xsOf g q = xs := ⟨_, rfl⟩
  have hx0 : ∀ i, q.count ≤ i → xs i = 0 := fun i hi => by rw [← hxs]; unfold xsOf; rw [if_neg (by omega)]
  have hfr := hwf.fr

  rw [hxs] at HGET HXN
  rw [hxs] at HHO hH
  clear hH
  obtain ⟨n, hn⟩ : ∃ n, fs.length = n := ⟨_, rfl⟩
  obtain ⟨cl, hc⟩ : ∃ cl, rf.code.length = cl := ⟨_, rfl⟩
  obtain ⟨a, ha⟩ : ∃ a, g.at_ = a := ⟨_, rfl⟩
  obtain ⟨cnt, hct⟩ : ∃ cnt, q.count = cnt := ⟨_, rfl⟩
  obtain ⟨fn, hfn⟩ : ∃ fn, g.fn = fn := ⟨_, rfl⟩
  obtain ⟨frm, hfm⟩ : ∃ frm, q.frm = frm := ⟨_, rfl⟩
  have s0 := (HSI.out w (Tn.refl _ _)).ov
  have s1 := (HSI.out w (Tn.refl _ _)).pl
  have s2 := (HSI.out w (Tn.refl _ _)).bl
  have s3 := (HSI.out w (Tn.refl _ _)).fl
  have s4 := (HSI.out w (Tn.refl _ _)).cl
  have s5 := (HSI.out w (Tn.refl _ _)).f0
  have s6 := (HSI.out w (Tn.refl _ _)).f1
  have s7 := (HSI.out w (Tn.refl _ _)).cd
  have s8 : ∀ k, ((w.drewN k).alloc (.cells #[.int .u64 0, .int .u64 0, .int .u64 0, .int .u64 0, .int .u64 0] 182)).cell? ⟨cb, g.at_ * 11 + 2, none⟩ = some (.int .u8 (q.count : Int)) := fun k => (HSI.out _ (((Tn.refl No w).drewN k).alloc _)).q.k2
  rw [hn] at s0 s5 s6 hoc hmost
  rw [hfn] at s5 s7
  rw [ha] at s6 s8 hat
  rw [hc] at s7 hcl hcc hat
  rw [hct] at s8 hcnt hx0
  rw [hfm] at hfr
  have a0 : (0 : Int) ≤ (n : Int) := by omega
  have y3' : (n : Int) ≤ 1048575 := by omega
  have y4' : (n : Int) ≤ 4611686018427387904 := Int.le_trans y3' (by decide)
  have b0 : (0 : Int) ≤ (a : Int) := by omega
  have b1' : (a : Int) < (cl : Int) := by omega
  have b2 : (cl : Int) ≤ 4194304 := by omega
  have ci : (cnt : Int) ≤ 5 := by omega
  have a1 : (n : Int) < (n : Int) + 1 := by omega
  have a2 : ((n + 1 : Nat) : Int) - 1 = (n : Int) := by omega
  have w0 := wrap64_small (n : Int) a0 y4'
  have w1' := wrapi_small (n : Int) a0 y4'
  have w2' : IntKind.i64.wrap ((n : Int) + 1 - 1) = n := by rw [Int.add_sub_cancel]; exact w1'

  have HNM := hid (And.intro hn (And.intro hfn (And.intro ha hfm)))
  have HCT := hid hct
  have HKD := hid hk
  clear hwf hR h hf hg hq hset hsi hxs hn hc ha hct hfn hfm hlc hk
  go_enter Tryz.func48, Tryz.ntmps48
  go_wp2_with fail
  go_quiet (fail)
  go_wp2_with fail
  go_quiet (fail)
  go_wp2_with fail

  clear s0 s5 s6 s7 s8 w0 w1' w2' a1 a2 s1 s2 s3 s4
  go_loopw [6, 7, 8, 38] (fun _ _ _ i wr => ∃ j : Nat, j ≤ cnt ∧ i = .int .u8 (j : Int) ∧ Tn No w wr ∧ XA w.heap.size xs j wr) (fun _ _ _ i _ => cnt - (intOf i).toNat)
  case atStart => exact ⟨0, by omega, rfl, (by repeat (first | exact Tn.refl _ _ | apply Tn.drew | apply Tn.drewN | apply Tn.alloc | (refine Tn.then ?_ (by assumption)) | (refine Tn.thenNo ?_ (by assumption)))), HXN.out _ (by repeat (first | exact Tn.refl _ _ | apply Tn.drew | apply Tn.drewN | apply Tn.alloc | (refine Tn.then ?_ (by assumption)) | (refine Tn.thenNo ?_ (by assumption)))) rfl⟩
  case round =>
    obtain ⟨j, hj, rfl, twr, hxa⟩ := hrel
    by_cases hlt : j < cnt
    · have hsw := HSI.out wr twr
      have t0 := hsw.f0
      have t1 := hsw.bl
      have t2 := hsw.cl
      have t3 := hsw.q.k6 j (by omega)
      rw [HNM.out.1] at t0
      rw [HNM.out.2.1] at t0
      rw [HNM.out.2.2.1, HNM.out.2.2.2] at t3
      have HG := hid (fun u t => HGET.out u j (twr.then t) (by have := HCT.out; omega))
      rw [HNM.out.1, HNM.out.2.2.2] at HG
      have x0 := hxa.at' j (by omega)
      rw [if_neg (by omega)] at x0
      have x1 := hxa.lt
      have x2 := hxa.fz j
      have HST := hid (fun u (t : Tn No wr u) => (hxa.no t).step (j := j) (by omega))
      have HTW := hid twr
      have j1 : (j : Int) < (cnt : Int) := by omega
      have j2 : (j : Int) < 5 := by omega
      have j3 : (0 : Int) ≤ (frm j : Int) := by omega
      have j4 : (frm j : Int) ≤ 4294967295 := by have := hfr j (by omega); omega
      have j5 := wrapu_small (frm j : Int) j3 (by omega)
      clear hsw hxa twr
      go_wp2_with fail
      go_quiet ((go_at_call 78; exact Calls.quiet_of_same (HG.out _ (by repeat (first | exact Tn.refl _ _ | apply Tn.drew | apply Tn.drewN | apply Tn.alloc | (refine Tn.then ?_ (by assumption)) | (refine Tn.thenNo ?_ (by assumption)))))))
      go_wp2_with fail
      go_roundw
      case rel => exact ⟨j + 1, by omega, by go_num, ((HTW.out.drewN _).set _ _ (by intro h; simp at h)), HST.out _ ((Tn.refl No wr).drewN _)⟩
      case measure => simp [intOf]; omega
    · obtain rfl : j = cnt := by omega
      have hsw := HSI.out wr twr
      have hxi : ∀ i, i < 5 → wr.cell? ⟨w.heap.size, i, none⟩ = some (.int .u64 (xs i)) := fun i hi => by
        rw [hxa.at' i hi]
        by_cases e : i < j
        · rw [if_pos e]
        · rw [if_neg e, hx0 i (by omega)]
      have HTW := hid twr
      have t0 := hsw.f0
      have t1 := hsw.f1
      have t2 := hsw.z1
      have t3 := hsw.bl
      have t4 := hsw.cl
      have t5 := hsw.q.k0
      rw [HNM.out.1, HNM.out.2.1] at t0
      rw [HNM.out.1, HNM.out.2.2.1] at t1
      rw [HNM.out.1] at t2
      rw [HNM.out.2.2.1, HKD.out] at t5
      have xl := hxa.lt

      have t6 := hsw.q.k4
      have t7 := hsw.q.k1
      rw [HNM.out.2.2.1, HTO.out] at t6
      rw [HNM.out.2.2.1] at t7
      rw [HNM.out.1, HNM.out.2.2.1] at HJ
      have x0 := hxi 0 (by omega)
      have x1 := hxi 1 (by omega)
      have m0 : (0 : Int) ≤ (m : Int) := by omega
      have m1 := wrapi_small (m : Int) m0 (by omega)
      have m2 := wrap64_small (m : Int) m0 (by omega)
      have hbw : w.heap.size ≠ b := by have := (HSI.out w (Tn.refl _ _)).bl; omega
      have hbw2 : b ≠ w.heap.size := fun e => hbw e.symm
      have hcb2 : b ≠ cb := fun e => hcb e.symm
      obtain ⟨hw8, hhw⟩ : ∃ hw8, q.how = hw8 := ⟨_, rfl⟩
      rw [hhw] at t7 HHO hh8
      obtain ⟨v1, v2⟩ := u8_i64 hw8 hh8
      have a9 : (a : Int) + 1 ≤ 4194305 := by omega
      have HJ1 := hid (HJ.out wr HTW.out)
      clear hsw hxa twr hxi HGET HXN HSI HJ hhw hx0
      go_wp2_with fail
      go_quiet ((go_at_call 79; exact Calls.quiet_of_same (HHO.out _)))
      go_wp2_with fail
      go_ret
      exact ⟨rfl, HJ1.out.2 _ (by repeat (first | exact Tn.refl _ _ | apply Tn.drew | apply Tn.drewN | apply Tn.alloc | (refine Tn.then ?_ (by assumption)) | (refine Tn.thenNo ?_ (by assumption))))⟩
end
end Go.Proofs.YtoidddfpekbliaaGreat
