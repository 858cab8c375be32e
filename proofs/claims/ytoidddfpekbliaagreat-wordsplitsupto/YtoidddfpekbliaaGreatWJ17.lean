/-
  word: one more call is opened: the function.
-/
import Derived.Test.YtoidddfpekbliaaGreatWJ16
import Derived.Test.YtoidddfpekbliaaGreatWJ07
import Derived.Test.YtoidddfpekbliaaGreatWJ14
namespace Go.Proofs.YtoidddfpekbliaaGreat
set_option linter.unusedSimpArgs false
set_option linter.unusedVariables false
open Go.RowKit
attribute [local go_sem ↓] Go.wp_at_zero Go.wp_at_succ

/-- a new call -/
def newFr (fn : Nat) (xs : List Int) : Fr := ⟨fn, 0, fun i => xs[i]?, fun _ => none⟩

theorem bankOf_push (fs : List Fr) (fn : Nat) (xs : List Int) : upd2 (bankOf fs) fs.length false (fun i => xs[i]?) = bankOf (fs ++ [newFr fn xs]) := by
  funext j r
  unfold upd2 bankOf
  by_cases e : j = fs.length
  · subst e
    rw [List.getElem?_append_right (Nat.le_refl _)]
    cases r <;> simp [newFr]
  · rw [if_neg (by simp [e])]
    rcases Nat.lt_or_ge j fs.length with h | h
    · rw [List.getElem?_append_left h]
    · rw [List.getElem?_eq_none h, List.getElem?_eq_none (by simp; omega)]

/-- what is left behind a push -/
def PU (p N fb : Nat) (fs : List Fr) (c : Nat → Value) (w : World) (L : Nat → Option Lb) (w' : World) : Prop :=
  ∃ b' cap' L' fc' c', OX p N b' cap' fb fs fc' c' w' L' ∧ Lq (fun k => k = p) Lb.isOp w L w' L' ∧ ∀ i, i ≠ 12 → i ≠ 13 → c' i = c i

section
variable {p N b cap fb : Nat} {fc c : Nat → Value} {w : World} {L : Nat → Option Lb} {fs : List Fr}

theorem push_fin {b1 cap1 : Nat} {fc1 c1 : Nat → Value} {w1 : World} {L1 : Nat → Option Lb} (hbx : BX p N b1 cap1 (bankOf fs) fc1 c1 w1 L1) (hn : fs.length < cap1) (hcm : cap1 ≤ 9223372036854775807) (hm : fs.length + 1 ≤ 1048576) (h12 : c1 12 = .slice (some ⟨b1, 0, none⟩) (fs.length + 1) cap1)
    (hhd : ∀ j f, fs[j]? = some f → fc1 (8 * j) = .pointer (some ⟨fb, 3 * f.fn, none⟩) ∧ fc1 (8 * j + 1) = .int .i64 (f.at_ : Int)) (hl : Lq (fun k => k = p) Lb.isOp w L w1 L1) (hc : ∀ i, i ≠ 12 → i ≠ 13 → c1 i = c i)
    (fn : Nat) (a : Option Addr) (ac : Nat) (xs : List Int) (hav : AV w1 L1 a xs) (hac : xs.length ≤ ac) (hlen : xs.length ≤ 1048576) (hN : N < 4611686018426339328) (w2 : World) (t : Tn No w1 w2) :
    Calls Tryz.prog 74 #[.pointer (some ⟨b1, fs.length * 8, none⟩), .pointer (some ⟨fb, 3 * fn, none⟩), .slice a xs.length ac, .pointer (some ⟨p, 13, none⟩)] w2 fun e w' => e = .returned (.tuple #[]) ∧ w'.cell? ⟨p, 12, none⟩ = some (.slice (some ⟨b1, 0, none⟩) (fs.length + 1) cap1) ∧ PU p (N + xs.length) fb (fs ++ [newFr fn xs]) c w L w' := by
  rw [Nat.mul_comm]
  have e0 : bankOf fs fs.length false = fun _ => none := by unfold bankOf; rw [List.getElem?_eq_none (Nat.le_refl _)]
  have hav2 : AV w2 L1 a xs := hav.kept (fun g hg hnn => ⟨t.block g hg (fun e => e), hnn⟩) t.size
  refine (begin_raw (hbx.no t) fs.length hn e0 (some ⟨fb, 3 * fn, none⟩) a ac xs hav2 hac hlen hN).mono ?_
  rintro e w' ⟨rfl, L3, fc3, c3, g1, g2, g3, g4, g5, g6⟩
  rw [bankOf_push fs fn xs] at g1
  refine ⟨rfl, by rw [g1.pc.cell 12 (by omega), g3 12 (by omega), h12], b1, cap1, L3, fc3, c3, ⟨g1, by simp; omega, hcm, by simp; omega, by rw [g3 12 (by omega), h12]; simp, fun j f e => ?_⟩, (hl.trans (Lq.of_no hbx.lt t)).trans (g2.op (.inl hbx.lb)), fun i h1 h2 => (g3 i h2).trans (hc i h1 h2)⟩
  rcases Nat.lt_or_ge j fs.length with h | h
  · rw [List.getElem?_append_left h] at e
    rw [g4 _ (by omega) (by omega) (by omega), g4 _ (by omega) (by omega) (by omega)]
    exact hhd j f e
  · have hj : j = fs.length := by
      have := (List.getElem?_eq_some_iff.1 e).1
      simp at this; omega
    subst hj
    have : f = newFr fn xs := by simpa using e.symm
    subst this
    exact ⟨g5, g6⟩

set_option maxHeartbeats 4000000 in
set_option maxRecDepth 100000 in
theorem push_room (h : OX p N b cap fb fs fc c w L) (hroom : fs.length < cap) (hm : fs.length + 1 ≤ 1048576) (fn : Nat) (a : Option Addr) (ac : Nat) (xs : List Int) (hav : AV w L a xs) (hac : xs.length ≤ ac) (hlen : xs.length ≤ 1048576) (hN : N < 4611686018426339328) :
    Calls Tryz.prog 45 #[.pointer (some ⟨p, 0, none⟩), .pointer (some ⟨fb, 3 * fn, none⟩), .slice a xs.length ac] w fun e w' => e = .returned (.tuple #[]) ∧ PU p (N + xs.length) fb (fs ++ [newFr fn xs]) c w L w' := by
  have hcm := h.cm
  have k12 := h.bx.pc.cell 12 (by omega)
  rw [h.ov] at k12
  have z12 := h.bx.pc.froz 12
  have plt := h.bx.pc.lt
  have HF : Hid (∀ q w2, Tn No ((w.drewN q).setCell ⟨p, 12, none⟩ (.slice (some ⟨b, 0, none⟩) (fs.length + 1) cap)) w2 → Calls Tryz.prog 74 #[.pointer (some ⟨b, fs.length * 8, none⟩), .pointer (some ⟨fb, 3 * fn, none⟩), .slice a xs.length ac, .pointer (some ⟨p, 13, none⟩)] w2 fun e w' => e = .returned (.tuple #[]) ∧ w'.cell? ⟨p, 12, none⟩ = some (.slice (some ⟨b, 0, none⟩) (fs.length + 1) cap) ∧ PU p (N + xs.length) fb (fs ++ [newFr fn xs]) c w L w') := by
    intro q w2 t0
    have t : Tn No (w.setCell ⟨p, 12, none⟩ (.slice (some ⟨b, 0, none⟩) (fs.length + 1) cap)) w2 := (show Tn No (w.setCell ⟨p, 12, none⟩ (.slice (some ⟨b, 0, none⟩) (fs.length + 1) cap)) ((w.drewN q).setCell ⟨p, 12, none⟩ (.slice (some ⟨b, 0, none⟩) (fs.length + 1) cap)) from ⟨rfl, rfl, rfl, Nat.le_refl _, fun _ _ _ => rfl⟩).thenNo t0
    have l1 := lq_own (p := p) (b := b) h.bx.lt 12 (.slice (some ⟨b, 0, none⟩) (fs.length + 1) cap)
    exact push_fin (h.bx.own 12 (by omega) (by omega) _) hroom hcm hm (upd_same _ _ _) h.hd (l1.op (.inl h.bx.lb)) (fun i h1 _ => upd_other _ _ h1) fn a ac xs (hav.kept (fun g hg hn => l1.foreign h.bx.lp h.bx.lb hg hn) (by simp)) hac hlen hN w2 t
  clear h
  obtain ⟨n, hn⟩ : ∃ n, fs.length = n := ⟨_, rfl⟩
  rw [hn] at HF k12 hroom hm
  have h0 : (0 : Int) ≤ (n : Int) := by omega
  have h0' : (0 : Int) ≤ (n : Int) + 1 := by omega
  have h2 : (n : Int) ≤ 1048575 := by omega
  have hr1 : (n : Int) < (cap : Int) := by omega
  have hr2 : (n : Int) + 1 ≤ (cap : Int) := by omega
  have h3 : ((n : Int) + 1).toNat = n + 1 := by omega
  have h4 : wrap64 (n : Int) = n := by unfold wrap64; omega
  have h5 : wrap64 ((n : Int) + 1) = (n : Int) + 1 := by unfold wrap64; omega
  clear hn hroom hm
  go_enter Tryz.func45, Tryz.ntmps45
  go_wp2_with fail
  go_quiet (fail)
  go_wp2_with fail
  go_region
  go_wp2_with fail
  have k12' := World.cell?_setCell_same (w.drewN (nq + 1)) ⟨p, 12, none⟩ (.slice (some ⟨b, 0, none⟩) (n + 1) cap) k12
  have HF2 := hid (HF.out (nq + 1))
  obtain ⟨w5, hw5⟩ : ∃ w5, w5 = (w.drewN (nq + 1)).setCell ⟨p, 12, none⟩ (.slice (some ⟨b, 0, none⟩) (n + 1) cap) := ⟨_, rfl⟩
  rw [← hw5] at k12' HF2 ⊢
  clear hw5
  have h9 : (n : Int) < (n : Int) + 1 := by omega
  have h10 : ((n + 1 : Nat) : Int) - 1 = (n : Int) := by omega
  have h6 : wrap64 ((n : Int) + 1 - 1) = n := by unfold wrap64; omega
  have h7 : IntKind.i64.wrap (n : Int) = n := by simp [IntKind.wrap, IntKind.bits, IntKind.signed]; omega
  have h8 : IntKind.i64.wrap ((n : Int) + 1 - 1) = n := by simp [IntKind.wrap, IntKind.bits, IntKind.signed]; omega
  go_region_held3 (fun w' => w'.cell? ⟨p, 12, none⟩ = some (.slice (some ⟨b, 0, none⟩) (n + 1) cap)) (go_keep) (first
    | (go_at_call 74; refine (HF2.out _ (by repeat (first | exact Tn.refl _ _ | apply Tn.drew | apply Tn.drewN | apply Tn.alloc | (refine Tn.then ?_ (by assumption)) | (refine Tn.thenNo ?_ (by assumption))))).mono ?_; rintro e w2 ⟨rfl, y12, hop⟩; have HE := hid hop; clear hop))
  go_wp2
  go_end0
  exact ⟨rfl, HE.out⟩

set_option maxHeartbeats 4000000 in
set_option maxRecDepth 100000 in
theorem push_grow (h : OX p N b fs.length fb fs fc c w L) (hm : fs.length + 1 ≤ 1048576) (fn : Nat) (a : Option Addr) (ac : Nat) (xs : List Int) (hav : AV w L a xs) (hac : xs.length ≤ ac) (hlen : xs.length ≤ 1048576) (hN : N < 4611686018426339328) :
    Calls Tryz.prog 45 #[.pointer (some ⟨p, 0, none⟩), .pointer (some ⟨fb, 3 * fn, none⟩), .slice a xs.length ac] w fun e w' => e = .returned (.tuple #[]) ∧ PU p (N + xs.length) fb (fs ++ [newFr fn xs]) c w L w' := by
  have k12 := h.bx.pc.cell 12 (by omega)
  rw [h.ov] at k12
  have z12 := h.bx.pc.froz 12
  have plt := h.bx.pc.lt
  have HG : Hid (∀ q, ∃ cap', fs.length + 1 ≤ cap' ∧ ∃ w1, (Builtin.append_ #[109, 109] 109 #[.slice (some ⟨b, 0, none⟩) fs.length fs.length, .slice (some ⟨w.heap.size, 0, none⟩) 1 1]).run Tryz.prog ((w.drewN q).alloc (.cells frL.toArray 169)) = .ok (.slice (some ⟨w.heap.size + 1, 0, none⟩) (fs.length + 1) cap') w1 ∧
      (∃ v, w1.cell? ⟨p, 12, none⟩ = some v) ∧ w1.frozen? ⟨p, 12, none⟩ = false ∧ p < w1.heap.size ∧ (w1.setCell ⟨p, 12, none⟩ (.slice (some ⟨w.heap.size + 1, 0, none⟩) (fs.length + 1) cap')).cell? ⟨p, 12, none⟩ = some (.slice (some ⟨w.heap.size + 1, 0, none⟩) (fs.length + 1) cap') ∧
      ∀ w2, Tn No (w1.setCell ⟨p, 12, none⟩ (.slice (some ⟨w.heap.size + 1, 0, none⟩) (fs.length + 1) cap')) w2 → Calls Tryz.prog 74 #[.pointer (some ⟨w.heap.size + 1, fs.length * 8, none⟩), .pointer (some ⟨fb, 3 * fn, none⟩), .slice a xs.length ac, .pointer (some ⟨p, 13, none⟩)] w2 fun e w' => e = .returned (.tuple #[]) ∧ w'.cell? ⟨p, 12, none⟩ = some (.slice (some ⟨w.heap.size + 1, 0, none⟩) (fs.length + 1) cap') ∧ PU p (N + xs.length) fb (fs ++ [newFr fn xs]) c w L w') := by
    intro q
    have td : Tn No w (w.drewN q) := (Tn.refl No w).drewN q
    obtain ⟨cap', h1, h2, w1, h3, h4, h5, h6⟩ := row_grows (w := w.drewN q) (base := some ⟨b, 0, none⟩) (n := fs.length) (fc := fc) (.inr ⟨b, rfl, (h.no td).bx.fb⟩) (by omega)
    have hsz : (w.drewN q).heap.size = w.heap.size := rfl
    rw [hsz] at h3 h5 h6
    obtain ⟨g1, g2⟩ := bx_grown h (td.then h4) h5 h6
    have l1 := lq_own (p := p) (b := w.heap.size + 1) g1.lt 12 (.slice (some ⟨w.heap.size + 1, 0, none⟩) (fs.length + 1) cap')
    refine ⟨cap', h1, w1, h3, ⟨_, g1.pc.cell 12 (by omega)⟩, g1.pc.froz 12, g1.pc.lt, World.cell?_setCell_same _ _ _ (g1.pc.cell 12 (by omega)), fun w2 t => ?_⟩
    refine push_fin (g1.own 12 (by omega) (by omega) _) (by omega) h2 hm (upd_same _ _ _) (fun j f e => ?_) (g2.trans (l1.op (.inl g1.lb))) (fun i h1 _ => upd_other _ _ h1) fn a ac xs ?_ hac hlen hN w2 t
    · have hj := (List.getElem?_eq_some_iff.1 e).1
      rw [if_pos (by omega), if_pos (by omega)]
      exact h.hd j f e
    · have hav1 : AV w1 (upd L (w.heap.size + 1) (some .row)) a xs := hav.kept (fun g hg hn => ⟨(td.then h4).block g hg (fun e => e), by rw [upd_other _ _ (by omega)]; exact hn⟩) (td.then h4).size
      exact hav1.kept (fun g hg hn => l1.foreign g1.lp g1.lb hg hn) (by simp)
  clear h hav
  obtain ⟨n, hn⟩ : ∃ n, fs.length = n := ⟨_, rfl⟩
  rw [hn] at HG k12 hm
  have h0 : (0 : Int) ≤ (n : Int) := by omega
  have h2 : (n : Int) ≤ 1048575 := by omega
  have h4 : wrap64 (n : Int) = n := by unfold wrap64; omega
  have h9 : (n : Int) < (n : Int) + 1 := by omega
  have h10 : ((n + 1 : Nat) : Int) - 1 = (n : Int) := by omega
  have h6 : wrap64 ((n : Int) + 1 - 1) = n := by unfold wrap64; omega
  have h7 : IntKind.i64.wrap (n : Int) = n := by simp [IntKind.wrap, IntKind.bits, IntKind.signed]; omega
  have h8 : IntKind.i64.wrap ((n : Int) + 1 - 1) = n := by simp [IntKind.wrap, IntKind.bits, IntKind.signed]; omega
  clear hn hm
  go_enter Tryz.func45, Tryz.ntmps45
  go_wp2_with fail
  go_quiet (fail)
  obtain ⟨cap', q1, w1, q2, ⟨v0, q3⟩, q4, q5, q6, q7⟩ := HG.out nq
  have HR := hid q2
  have HF2 := hid q7
  clear q2 q7 HG
  have e8 : (n : Int) < (cap' : Int) := by omega
  go_wp2_with (at_builtin; refine wpList_app _ rfl _ _ _ _ rfl _ _ rfl rfl _ w1 HR.out ?_)
  obtain ⟨w5, hw5⟩ : ∃ w5, w5 = w1.setCell ⟨p, 12, none⟩ (.slice (some ⟨w.heap.size + 1, 0, none⟩) (n + 1) cap') := ⟨_, rfl⟩
  rw [← hw5] at q6 HF2 ⊢
  obtain ⟨g, hg⟩ : ∃ g, w.heap.size + 1 = g := ⟨_, rfl⟩
  rw [hg] at q6 HF2
  try rw [hg]
  clear hw5
  go_region_held3 (fun w' => w'.cell? ⟨p, 12, none⟩ = some (.slice (some ⟨g, 0, none⟩) (n + 1) cap')) (go_keep) (first
    | (go_at_call 74; refine (HF2.out _ (by repeat (first | exact Tn.refl _ _ | apply Tn.drew | apply Tn.drewN | apply Tn.alloc | (refine Tn.then ?_ (by assumption)) | (refine Tn.thenNo ?_ (by assumption))))).mono ?_; rintro e w2 ⟨rfl, y12, hop⟩; have HE := hid hop; clear hop))
  go_wp2
  go_end0
  exact ⟨rfl, HE.out⟩

theorem push_raw (h : OX p N b cap fb fs fc c w L) (hm : fs.length + 1 ≤ 1048576) (fn : Nat) (a : Option Addr) (ac : Nat) (xs : List Int) (hav : AV w L a xs) (hac : xs.length ≤ ac) (hlen : xs.length ≤ 1048576) (hN : N < 4611686018426339328) :
    Calls Tryz.prog 45 #[.pointer (some ⟨p, 0, none⟩), .pointer (some ⟨fb, 3 * fn, none⟩), .slice a xs.length ac] w fun e w' => e = .returned (.tuple #[]) ∧ PU p (N + xs.length) fb (fs ++ [newFr fn xs]) c w L w' := by
  by_cases hr : fs.length < cap
  · exact push_room h hr hm fn a ac xs hav hac hlen hN
  · have e : cap = fs.length := by have := h.len; omega
    subst e
    exact push_grow h hm fn a ac xs hav hac hlen hN
end
end Go.Proofs.YtoidddfpekbliaaGreat
namespace Go.Proofs.YtoidddfpekbliaaGreat
set_option linter.unusedSimpArgs false
set_option linter.unusedVariables false
open Go.RowKit
attribute [local go_sem ↓] Go.wp_at_zero Go.wp_at_succ

/-- an instruction as it is run -/
structure RCode where
  kind : Nat
  how : Nat
  count : Nat
  d : Nat
  to_ : Int
  imm : Int
  frm : Nat → Nat
structure RFun where
  name : ByteArray
  params : Nat
  code : List RCode

structure CodeAt (w : World) (g o : Nat) (q : RCode) : Prop where
  k0 : w.cell? ⟨g, o, none⟩ = some (.int .u8 (q.kind : Int))
  k1 : w.cell? ⟨g, o + 1, none⟩ = some (.int .u8 (q.how : Int))
  k2 : w.cell? ⟨g, o + 2, none⟩ = some (.int .u8 (q.count : Int))
  k3 : w.cell? ⟨g, o + 3, none⟩ = some (.int .u32 (q.d : Int))
  k4 : w.cell? ⟨g, o + 4, none⟩ = some (.int .i32 q.to_)
  k5 : w.cell? ⟨g, o + 5, none⟩ = some (.int .u64 q.imm)
  k6 : ∀ i, i < 5 → w.cell? ⟨g, o + 6 + i, none⟩ = some (.int .u32 (q.frm i : Int))

structure PRG (w : World) (L : Nat → Option Lb) (v : Value) (fb : Nat) (R : List RFun) : Prop where
  sl : ∃ cap, v = .slice (some ⟨fb, 0, none⟩) R.length cap ∧ R.length ≤ cap
  lab : L fb = some .prog
  fn : ∀ i f, R[i]? = some f → w.cell? ⟨fb, 3 * i, none⟩ = some (.string f.name) ∧ w.cell? ⟨fb, 3 * i + 1, none⟩ = some (.int .i64 (f.params : Int)) ∧ ∃ cb cap, w.cell? ⟨fb, 3 * i + 2, none⟩ = some (.slice (some ⟨cb, 0, none⟩) f.code.length cap) ∧ f.code.length ≤ cap ∧ L cb = some .prog ∧ ∀ k q, f.code[k]? = some q → CodeAt w cb (k * 11) q

theorem CodeAt.kept {w w' : World} {g o : Nat} {q : RCode} (h : CodeAt w g o q) (hk : w'.heap[g]? = w.heap[g]?) : CodeAt w' g o q := by
  have e : ∀ i, w'.cell? ⟨g, i, none⟩ = w.cell? ⟨g, i, none⟩ := fun i => World.cell?_of_block (w := w) hk
  exact ⟨by rw [e]; exact h.k0, by rw [e]; exact h.k1, by rw [e]; exact h.k2, by rw [e]; exact h.k3, by rw [e]; exact h.k4, by rw [e]; exact h.k5, fun i hi => by rw [e]; exact h.k6 i hi⟩
theorem PRG.kept {w w' : World} {L L' : Nat → Option Lb} {v : Value} {fb : Nat} {R : List RFun} (h : PRG w L v fb R) (hk : ∀ k, L k = some .prog → w'.heap[k]? = w.heap[k]?) (hl : ∀ k, L k = some .prog → L' k = some .prog) : PRG w' L' v fb R := by
  have e : ∀ i, w'.cell? ⟨fb, i, none⟩ = w.cell? ⟨fb, i, none⟩ := fun i => World.cell?_of_block (w := w) (hk fb h.lab)
  refine ⟨h.sl, hl _ h.lab, fun i f hf => ?_⟩
  obtain ⟨h1, h2, cb, cap, h3, h4, h5, h6⟩ := h.fn i f hf
  exact ⟨by rw [e]; exact h1, by rw [e]; exact h2, cb, cap, by rw [e]; exact h3, h4, hl _ h5, fun k q hq => (h6 k q hq).kept (hk cb h5)⟩

/-- a process -/
structure PSt where
  fs : List Fr
  M : Mem
  S : St
  entered : Bool
  status : Int
  code : Int
  answer : Int
  steps : Nat

structure PR (p N fb pw : Nat) (R : List RFun) (strict : Bool) (X : PSt) (b cap : Nat) (vd vh : Value) (fc c : Nat → Value) (w : World) (L : Nat → Option Lb) (Lw : Nat → Option Lab) : Prop where
  ox : OX p N b cap fb X.fs fc c w L
  mb : MB p N X.M vd vh w L c
  pg : PRG w L (c 0) fb R
  c9 : c 9 = .pointer (some ⟨pw, 0, none⟩)
  c10 : c 10 = .bool strict
  c11 : c 11 = .bool X.entered
  c14 : c 14 = .int .i64 X.status
  c15 : c 15 = .int .i64 X.code
  c16 : c 16 = .int .u64 X.answer
  c17 : c 17 = .int .i64 (X.steps : Int)
  pw : PW w pw Lw N X.S
  dis : ∀ k, L k ≠ none → Lw k = none

def PA (p N fb pw : Nat) (R : List RFun) (strict : Bool) (X : PSt) (w : World) (L : Nat → Option Lb) (Lw : Nat → Option Lab) : Prop := ∃ b cap vd vh fc c, PR p N fb pw R strict X b cap vd vh fc c w L Lw

/-- what is left behind a call on a process -/
def PL (p N fb pw : Nat) (R : List RFun) (strict : Bool) (X : PSt) (w : World) (L : Nat → Option Lb) (Lw : Nat → Option Lab) (w' : World) : Prop :=
  ∃ L' Lw', PA p N fb pw R strict X w' L' Lw' ∧ Tn (fun k => L k ≠ none ∨ Lw k ≠ none) w w' ∧ ∀ k, k < w.heap.size → L k = none → Lw k = none → L' k = none ∧ Lw' k = none

section
variable {p N fb pw : Nat} {R : List RFun} {strict : Bool} {X : PSt} {b cap : Nat} {vd vh : Value} {fc c : Nat → Value} {w : World} {L : Nat → Option Lb} {Lw : Nat → Option Lab}

theorem PL.trans {M : Nat} {X' : PSt} {w1 w2 : World} {L1 : Nat → Option Lb} {Lw1 : Nat → Option Lab} (h : PL p M fb pw R strict X' w1 L1 Lw1 w2) (t : Tn (fun k => L k ≠ none ∨ Lw k ≠ none) w w1) (hl : ∀ k, k < w.heap.size → L k = none → Lw k = none → L1 k = none ∧ Lw1 k = none) : PL p M fb pw R strict X' w L Lw w2 := by
  obtain ⟨L2, Lw2, g1, g2, g3⟩ := h
  refine ⟨L2, Lw2, g1, t.trans g2 (fun _ _ e => e) (fun i hi e => ?_), fun k hk h1 h2 => ?_⟩
  · apply Classical.byContradiction
    intro hc
    have h1 : L i = none := Classical.byContradiction (fun q => hc (.inl q))
    have h2 : Lw i = none := Classical.byContradiction (fun q => hc (.inr q))
    obtain ⟨q1, q2⟩ := hl i hi h1 h2
    rcases e with e | e
    · exact e q1
    · exact e q2
  · obtain ⟨q1, q2⟩ := hl k hk h1 h2
    exact g3 k (Nat.lt_of_lt_of_le hk t.size) q1 q2

theorem PR.lt (h : PR p N fb pw R strict X b cap vd vh fc c w L Lw) : ∀ k, L k ≠ none → k < w.heap.size := h.ox.bx.lt

/-- what frames' blocks need to stay -/
theorem OX.kept {w' : World} {L' : Nat → Option Lb} {c' : Nat → Value} {fs : List Fr} (h : OX p N b cap fb fs fc c w L) (hk : ∀ k l, L k = some l → l.isOp → w'.heap[k]? = w.heap[k]? ∧ L' k = some l) (hp : CB w' p 18 c') (hL : L' p = some .own) (h12 : c' 12 = c 12) (h13 : c' 13 = c 13) (hlt : ∀ k, L' k ≠ none → k < w'.heap.size) : OX p N b cap fb fs fc c' w' L' := by
  have hput : ∀ l j r, Lb.isBank j r l → l.isOp := fun l j r e => .inl ⟨j, r, .inl e⟩
  obtain ⟨sp, hs⟩ := h.bx.sp
  have hs2 : SPR w' L' (c 13) sp := hs.kept (fun k e => by
    rcases e with e | ⟨i, e⟩
    · exact (hk k _ e (.inl ⟨0, true, .inr (.inl rfl)⟩)).1
    · exact (hk k _ e (.inl ⟨0, true, .inr (.inr ⟨i, rfl⟩)⟩)).1) (fun k e => by
    rcases e with e | ⟨i, e⟩
    · rw [(hk k _ e (.inl ⟨0, true, .inr (.inl rfl)⟩)).2, e]
    · rw [(hk k _ e (.inl ⟨0, true, .inr (.inr ⟨i, rfl⟩)⟩)).2, e])
  refine ⟨⟨hp, hL, (hk b _ h.bx.lb (.inr rfl)).2, h.bx.fb.kept (hk b _ h.bx.lb (.inr rfl)).1, ⟨sp, by rw [h13]; exact hs2⟩, fun j r hj => ?_, hlt⟩, h.len, h.cm, h.most, by rw [h12]; exact h.ov, h.hd⟩
  obtain ⟨f, n, m, l, g1, g2⟩ := h.bx.bk j r hj
  exact ⟨f, n, m, l, g1.kept (fun k l e1 e2 => (hk k l e1 (hput l j r e2)).1) (fun k l e1 e2 => (hk k l e1 (hput l j r e2)).2), g2⟩

theorem AB.keptq {o : Nat} {a : Bool} {base size : Nat} {v2 : Value} {m : Nat → Int} {w' : World} {L' : Nat → Option Lb} {c' : Nat → Value} (h : AB p o a base size v2 N m w L c) (hk : ∀ k l, L k = some l → l.isMem → w'.heap[k]? = w.heap[k]? ∧ L' k = some l) (hp : CB w' p 18 c') (hL : L' p = some .own) (hc : ∀ i, o ≤ i → i ≤ o + 3 → c' i = c i) (hlt : ∀ k, L' k ≠ none → k < w'.heap.size) : AB p o a base size v2 N m w' L' c' := by
  obtain ⟨mo, pgs, e, g⟩ := h.ex
  have hm : ∀ l : Lb, l.isArea a → l.isMem := fun l e => by cases a; exact .inl e; exact .inr e
  have : ∀ l, (∀ k, L k = some l → l.isArea a → L' k = some l) := fun l k e1 e2 => (hk k l e1 (hm l e2)).2
  refine ⟨hp, h.ho, by rw [hc _ (by omega) (by omega)]; exact h.e0, by rw [hc _ (by omega) (by omega)]; exact h.e1, by rw [hc _ (by omega) (by omega)]; exact h.e2, ⟨mo, pgs, by rw [hc _ (by omega) (by omega)]; exact e, ?_⟩, hL, hlt⟩
  have hn : ∀ g', v2.ownBlock = some g' → w'.heap[g']? = w.heap[g']? := fun g' hg => (hk g' _ (g.labn g' hg) (hm _ rfl)).1
  exact {
    near := g.near.kept hn
    labn := fun g' hg => this _ _ (g.labn g' hg) rfl
    at' := fun n hn' => (vc_kept hn n).trans (g.at' n hn')
    far := g.far.kept (fun b hb => (hk b _ (g.labf b hb) (hm _ rfl)).1)
    labf := fun b hb => this _ _ (g.labf b hb) rfl
    pg := fun n g' e => ⟨this _ _ (g.pg n g' e).1 rfl, (g.pg n g' e).2.kept (hk g' _ (g.pg n g' e).1 (hm _ rfl)).1⟩
    zero := g.zero
    range := g.range }
theorem MB.keptq {M : Mem} {w' : World} {L' : Nat → Option Lb} {c' : Nat → Value} (h : MB p N M vd vh w L c) (hk : ∀ k l, L k = some l → l.isMem → w'.heap[k]? = w.heap[k]? ∧ L' k = some l) (hp : CB w' p 18 c') (hL : L' p = some .own) (hc : ∀ i, 1 ≤ i → i ≤ 8 → c' i = c i) (hlt : ∀ k, L' k ≠ none → k < w'.heap.size) : MB p N M vd vh w' L' c' :=
  ⟨h.d.keptq hk hp hL (fun i h1 h2 => hc i h1 (by omega)) hlt, h.h.keptq hk hp hL (fun i h1 h2 => hc i (by omega) h2) hlt, h.bd, h.bh⟩

theorem isOp_isMem {l : Lb} (h : l.isOp) : ¬ l.isMem := by
  rcases h with ⟨j, r, h | h | ⟨i, h⟩⟩ | h
  · cases l <;> simp only [Lb.isBank] at h <;> first | exact h.elim | (rintro (q | q) <;> exact q)
  · subst h; rintro (q | q) <;> exact q
  · subst h; rintro (q | q) <;> exact q
  · subst h; rintro (q | q) <;> exact q
theorem isOp_prog : ¬ Lb.isOp .prog := by rintro (⟨j, r, h | h | ⟨i, h⟩⟩ | h) <;> cases h
theorem isOp_own : ¬ Lb.isOp .own := by rintro (⟨j, r, h | h | ⟨i, h⟩⟩ | h) <;> cases h
theorem isMem_prog : ¬ Lb.isMem .prog := by rintro (q | q) <;> exact q
theorem isMem_own : ¬ Lb.isMem .own := by rintro (q | q) <;> exact q

/-- the world of the process, where its own blocks turn -/
theorem pw_kept {P : Lb → Prop} {w' : World} {L' : Nat → Option Lb} (h : PR p N fb pw R strict X b cap vd vh fc c w L Lw) (hl : Lq (fun k => k = p) P w L w' L') : PW w' pw Lw N X.S ∧ (∀ k, L' k ≠ none → Lw k = none) ∧ Tn (fun k => L k ≠ none ∨ Lw k ≠ none) w w' ∧ (∀ k, k < w.heap.size → L k = none → Lw k = none → L' k = none ∧ Lw k = none) := by
  have hlp : L p ≠ none := by rw [h.ox.bx.lp]; simp
  have hF : ∀ k, (k = p ∨ ∃ l, L k = some l ∧ P l) → L k ≠ none := by
    rintro k (rfl | ⟨l, e, _⟩)
    · exact hlp
    · rw [e]; simp
  refine ⟨h.pw.tn hl.tn (fun k e => h.dis k (hF k e)), fun k hk => ?_, hl.tn.mono (fun k _ e => .inl (hF k e)), fun k hk h1 h2 => ⟨hl.non k hk h1, h2⟩⟩
  by_cases hc : k < w.heap.size
  · by_cases h1 : L k = none
    · exact absurd (hl.non k hc h1) hk
    · exact h.dis k h1
  · cases e : Lw k with
    | none => rfl
    | some x => have := h.pw.lt k (by rw [e]; simp); omega

/-- memory has turned -/
theorem PR.mem {M' : Mem} {K : Nat} {w' : World} (h : PR p N fb pw R strict X b cap vd vh fc c w L Lw) (hK : N ≤ K) (hm : MPost p K M' vd vh w L c w') : PL p K fb pw R strict { X with M := M' } w L Lw w' := by
  obtain ⟨L', c', g1, g2, g3⟩ := hm
  have hlq := g2.lq h.lt
  obtain ⟨q1, q2, q3, q4⟩ := pw_kept h hlq
  have hne : ∀ k l, L k = some l → ¬ l.isMem → l ≠ .own → w'.heap[k]? = w.heap[k]? ∧ L' k = some l := fun k l e hn ho => ⟨hlq.keep h.lt e hn (by rintro rfl; rw [h.ox.bx.lp] at e; cases e; exact ho rfl), hlq.old k l e hn⟩
  refine ⟨L', Lw, ⟨b, cap, vd, vh, fc, c', ⟨(h.ox.kept (fun k l e ho => hne k l e (isOp_isMem ho) (by rintro rfl; exact isOp_own ho)) g1.d.hp g1.d.hL (g3 12 (by omega) (by omega)) (g3 13 (by omega) (by omega)) g1.d.hlt).mono hK, g1, ?_, by rw [g3 9 (by omega) (by omega)]; exact h.c9, by rw [g3 10 (by omega) (by omega)]; exact h.c10, by rw [g3 11 (by omega) (by omega)]; exact h.c11, by rw [g3 14 (by omega) (by omega)]; exact h.c14, by rw [g3 15 (by omega) (by omega)]; exact h.c15, by rw [g3 16 (by omega) (by omega)]; exact h.c16, by rw [g3 17 (by omega) (by omega)]; exact h.c17, q1.mono hK, q2⟩⟩, q3, q4⟩
  rw [g3 0 (by omega) (by omega)]
  exact h.pg.kept (fun k e => (hne k _ e isMem_prog (by simp)).1) (fun k e => (hne k _ e isMem_prog (by simp)).2)

/-- the calls have turned -/
theorem PR.openX {fs' : List Fr} {K b' cap' : Nat} {fc' c' : Nat → Value} {w' : World} {L' : Nat → Option Lb} (h : PR p N fb pw R strict X b cap vd vh fc c w L Lw) (hK : N ≤ K) (ho : OX p K b' cap' fb fs' fc' c' w' L') (hlq : Lq (fun k => k = p) Lb.isOp w L w' L') (hc : ∀ i, i ≠ 12 → i ≠ 13 → c' i = c i) :
    PR p K fb pw R strict { X with fs := fs' } b' cap' vd vh fc' c' w' L' Lw ∧ Tn (fun k => L k ≠ none ∨ Lw k ≠ none) w w' ∧ (∀ k, k < w.heap.size → L k = none → Lw k = none → L' k = none ∧ Lw k = none) ∧ (∀ k, L k = some .prog → w'.heap[k]? = w.heap[k]?) := by
  obtain ⟨q1, q2, q3, q4⟩ := pw_kept h hlq
  have hne : ∀ k l, L k = some l → ¬ l.isOp → l ≠ .own → w'.heap[k]? = w.heap[k]? ∧ L' k = some l := fun k l e hn ho => ⟨hlq.keep h.lt e hn (by rintro rfl; rw [h.ox.bx.lp] at e; cases e; exact ho rfl), hlq.old k l e hn⟩
  refine ⟨⟨ho, (h.mb.mono hK).keptq (fun k l e hm => hne k l e (fun q => isOp_isMem q hm) (by rintro rfl; exact isMem_own hm)) ho.bx.pc ho.bx.lp (fun i h1 h2 => hc i (by omega) (by omega)) ho.bx.lt, ?_, by rw [hc 9 (by omega) (by omega)]; exact h.c9, by rw [hc 10 (by omega) (by omega)]; exact h.c10, by rw [hc 11 (by omega) (by omega)]; exact h.c11, by rw [hc 14 (by omega) (by omega)]; exact h.c14, by rw [hc 15 (by omega) (by omega)]; exact h.c15, by rw [hc 16 (by omega) (by omega)]; exact h.c16, by rw [hc 17 (by omega) (by omega)]; exact h.c17, q1.mono hK, q2⟩, q3, q4, fun k e => (hne k _ e isOp_prog (by simp)).1⟩
  rw [hc 0 (by omega) (by omega)]
  exact h.pg.kept (fun k e => (hne k _ e isOp_prog (by simp)).1) (fun k e => (hne k _ e isOp_prog (by simp)).2)
theorem PR.open_ {fs' : List Fr} {K b' cap' : Nat} {fc' c' : Nat → Value} {w' : World} {L' : Nat → Option Lb} (h : PR p N fb pw R strict X b cap vd vh fc c w L Lw) (hK : N ≤ K) (ho : OX p K b' cap' fb fs' fc' c' w' L') (hlq : Lq (fun k => k = p) Lb.isOp w L w' L') (hc : ∀ i, i ≠ 12 → i ≠ 13 → c' i = c i) : PL p K fb pw R strict { X with fs := fs' } w L Lw w' := by
  obtain ⟨g1, g2, g3, _⟩ := h.openX hK ho hlq hc
  exact ⟨L', Lw, ⟨b', cap', vd, vh, fc', c', g1⟩, g2, g3⟩

theorem PA.pl (h : PA p N fb pw R strict X w L Lw) : PL p N fb pw R strict X w L Lw w := ⟨L, Lw, h, Tn.refl _ _, fun _ _ h1 h2 => ⟨h1, h2⟩⟩
theorem PR.pa (h : PR p N fb pw R strict X b cap vd vh fc c w L Lw) : PA p N fb pw R strict X w L Lw := ⟨b, cap, vd, vh, fc, c, h⟩

/-- nothing of it has turned -/
theorem PR.no {w' : World} (h : PR p N fb pw R strict X b cap vd vh fc c w L Lw) (t : Tn No w w') : PR p N fb pw R strict X b cap vd vh fc c w' L Lw := by
  have hk : ∀ k l, L k = some l → w'.heap[k]? = w.heap[k]? := fun k l e => t.block k (h.lt k (by rw [e]; simp)) (fun e => e)
  exact { h with
    ox := h.ox.no t
    mb := h.mb.keptq (fun k l e _ => ⟨hk k l e, e⟩) (h.mb.d.hp.kept (hk p _ h.ox.bx.lp)) h.ox.bx.lp (fun _ _ _ => rfl) (h.ox.no t).bx.lt
    pg := h.pg.kept (fun k e => hk k _ e) (fun _ e => e)
    pw := h.pw.no t }
theorem PL.no {w1 w2 : World} (h : PL p N fb pw R strict X w L Lw w1) (t : Tn No w1 w2) : PL p N fb pw R strict X w L Lw w2 := by
  obtain ⟨L', Lw', ⟨b, cap, vd, vh, fc, c, g1⟩, g2, g3⟩ := h
  exact ⟨L', Lw', (g1.no t).pa, g2.thenNo t, g3⟩
theorem PR.plNo {w' : World} (h : PR p N fb pw R strict X b cap vd vh fc c w L Lw) (t : Tn No w w') : PL p N fb pw R strict X w L Lw w' := (h.pa.pl).no t
theorem PR.mono {M : Nat} (h : PR p N fb pw R strict X b cap vd vh fc c w L Lw) (hN : N ≤ M) : PR p M fb pw R strict X b cap vd vh fc c w L Lw := { h with ox := h.ox.mono hN, mb := h.mb.mono hN, pw := h.pw.mono hN }
theorem PL.mono {M : Nat} {w1 : World} (h : PL p N fb pw R strict X w L Lw w1) (hN : N ≤ M) : PL p M fb pw R strict X w L Lw w1 := by
  obtain ⟨L', Lw', ⟨b, cap, vd, vh, fc, c, g1⟩, g2, g3⟩ := h
  exact ⟨L', Lw', (g1.mono hN).pa, g2, g3⟩

/-- one of the process's own cells is set -/
theorem PR.own {X' : PSt} (h : PR p N fb pw R strict X b cap vd vh fc c w L Lw) (i : Nat) (hi : i < 18) (hne : i = 11 ∨ 14 ≤ i) (v : Value) (hfs : X'.fs = X.fs) (hM : X'.M = X.M) (hS : X'.S = X.S) (e11 : upd c i v 11 = .bool X'.entered) (e14 : upd c i v 14 = .int .i64 X'.status) (e15 : upd c i v 15 = .int .i64 X'.code) (e16 : upd c i v 16 = .int .u64 X'.answer) (e17 : upd c i v 17 = .int .i64 (X'.steps : Int)) :
    PR p N fb pw R strict X' b cap vd vh fc (upd c i v) (w.setCell ⟨p, i, none⟩ v) L Lw ∧ Tn (fun k => L k ≠ none ∨ Lw k ≠ none) w (w.setCell ⟨p, i, none⟩ v) := by
  have hk : ∀ k l, L k = some l → l ≠ .own → (w.setCell ⟨p, i, none⟩ v).heap[k]? = w.heap[k]? := fun k l e hne => Below.heap_setCell _ _ _ _ (by intro e'; simp only at e'; subst e'; rw [h.ox.bx.lp] at e; cases e; exact hne rfl)
  have hlt : ∀ k, L k ≠ none → k < (w.setCell ⟨p, i, none⟩ v).heap.size := fun k hk => by simpa using h.lt k hk
  have hlp : L p ≠ none := by rw [h.ox.bx.lp]; simp
  have hcb := h.ox.bx.pc.set i hi v
  refine ⟨⟨by rw [hfs]; exact h.ox.kept (fun k l e ho => ⟨hk k l e (by rintro rfl; exact isOp_own ho), e⟩) hcb h.ox.bx.lp (upd_other _ _ (by omega)) (upd_other _ _ (by omega)) hlt, by rw [hM]; exact h.mb.keptq (fun k l e ho => ⟨hk k l e (by rintro rfl; exact isMem_own ho), e⟩) hcb h.ox.bx.lp (fun q h1 h2 => upd_other _ _ (by omega)) hlt, by rw [upd_other _ _ (by omega)]; exact h.pg.kept (fun k e => hk k _ e (by simp)) (fun _ e => e), by rw [upd_other _ _ (by omega)]; exact h.c9, by rw [upd_other _ _ (by omega)]; exact h.c10, e11, e14, e15, e16, e17, ?_, h.dis⟩, Tn.set (Tn.refl _ _) _ _ (fun _ => .inl hlp)⟩
  rw [hS]
  exact h.pw.tn (Tn.set (F := fun k => k = p) (Tn.refl _ _) _ _ (fun _ => rfl)) (fun k e => by subst e; exact h.dis k hlp)

/-- the world has turned -/
theorem PR.world {S' : St} {K : Nat} {w' : World} (h : PR p N fb pw R strict X b cap vd vh fc c w L Lw) (hK : N ≤ K) (hl : Lft w pw Lw w' K S') : PL p K fb pw R strict { X with S := S' } w L Lw w' := by
  obtain ⟨Lw', g1, g2, g3⟩ := hl
  have hk : ∀ k l, L k = some l → w'.heap[k]? = w.heap[k]? := fun k l e => g2.block k (h.lt k (by rw [e]; simp)) (fun q => q (h.dis k (by rw [e]; simp)))
  have hlt : ∀ k, L k ≠ none → k < w'.heap.size := fun k hk => Nat.lt_of_lt_of_le (h.lt k hk) g2.size
  have hcb := h.ox.bx.pc.kept (hk p _ h.ox.bx.lp)
  exact ⟨L, Lw', ⟨b, cap, vd, vh, fc, c, ⟨(h.ox.mono hK).kept (fun k l e _ => ⟨hk k l e, e⟩) hcb h.ox.bx.lp rfl rfl hlt, (h.mb.mono hK).keptq (fun k l e _ => ⟨hk k l e, e⟩) hcb h.ox.bx.lp (fun _ _ _ => rfl) hlt, h.pg.kept (fun k e => hk k _ e) (fun _ e => e), h.c9, h.c10, h.c11, h.c14, h.c15, h.c16, h.c17, g1, fun k hk => g3 k (h.lt k hk) (h.dis k hk)⟩⟩, g2.mono (fun _ _ e => .inr e), fun k hk' h1 h2 => ⟨h1, g3 k hk' h2⟩⟩

/-- 'exit' -/
def PSt.exit (X : PSt) (x : Int) : PSt := { X with status := 1, code := x % 256 }
set_option maxHeartbeats 1000000 in
theorem exit_raw (h : PR p N fb pw R strict X b cap vd vh fc c w L Lw) (x : Int) (hx : 0 ≤ x ∧ x ≤ 18446744073709551615) : Calls Tryz.prog 122 #[.pointer (some ⟨p, 0, none⟩), .int .u64 x] w fun e w' => e = .returned (.tuple #[]) ∧ PL p N fb pw R strict (X.exit x) w L Lw w' := by
  have k14 := h.ox.bx.pc.cell 14 (by omega)
  have k15 := h.ox.bx.pc.cell 15 (by omega)
  have z14 := h.ox.bx.pc.froz 14
  have z15 := h.ox.bx.pc.froz 15
  have plt := h.ox.bx.pc.lt
  have HE : Hid (PL p N fb pw R strict (X.exit x) w L Lw ((w.setCell ⟨p, 14, none⟩ (.int .i64 1)).setCell ⟨p, 15, none⟩ (.int .i64 (x % 256)))) := by
    obtain ⟨g1, t1⟩ := h.own (X' := { X with status := 1 }) 14 (by omega) (by omega) (.int .i64 1) rfl rfl rfl (by rw [upd_other _ _ (by omega)]; exact h.c11) (upd_same _ _ _) (by rw [upd_other _ _ (by omega)]; exact h.c15) (by rw [upd_other _ _ (by omega)]; exact h.c16) (by rw [upd_other _ _ (by omega)]; exact h.c17)
    obtain ⟨g2, t2⟩ := g1.own (X' := X.exit x) 15 (by omega) (by omega) (.int .i64 (x % 256)) rfl rfl rfl (by rw [upd_other _ _ (by omega)]; exact g1.c11) (by rw [upd_other _ _ (by omega)]; exact g1.c14) (upd_same _ _ _) (by rw [upd_other _ _ (by omega)]; exact g1.c16) (by rw [upd_other _ _ (by omega)]; exact g1.c17)
    exact ⟨L, Lw, g2.pa, t1.then t2, fun _ _ h1 h2 => ⟨h1, h2⟩⟩
  have hx1 := hx.1
  have hx2 := hx.2
  clear h hx
  go_enter Tryz.func122, Tryz.ntmps122
  go_wp2
  go_end0
  exact ⟨rfl, HE.out⟩
end
end Go.Proofs.YtoidddfpekbliaaGreat
namespace Go.Proofs.YtoidddfpekbliaaGreat
set_option linter.unusedSimpArgs false
set_option linter.unusedVariables false
open Go.RowKit
attribute [local go_sem ↓] Go.wp_at_zero Go.wp_at_succ

theorem enters_ready : Enters Tryz.prog 144 := enters_of Tryz.func144 (by kernel_rfl) rfl

/-- what is gathered of an instruction -/
def gath (x : Wd) : Gth := (usesF x).foldl step1 ⟨0, 0, fun _ => 0⟩
def c11 (v0 v1 v2 v3 v4 v5 v6 v7 v8 v9 v10 : Value) (i : Nat) : Value := #[v0, v1, v2, v3, v4, v5, v6, v7, v8, v9, v10].getD i undef
theorem put11_all (P : World → Prop) {w : World} {g : Nat} {c : Nat → Value} (h : CB w g 11 c) {v0 v1 v2 v3 v4 v5 v6 v7 v8 v9 v10 : Value} (k : ∀ W, CB W g 11 (c11 v0 v1 v2 v3 v4 v5 v6 v7 v8 v9 v10) → Tn (fun k => k = g) w W → P W) :
    P (((((((((((w.setCell ⟨g, 0, none⟩ v0).setCell ⟨g, 1, none⟩ v1).setCell ⟨g, 2, none⟩ v2).setCell ⟨g, 3, none⟩ v3).setCell ⟨g, 4, none⟩ v4).setCell ⟨g, 5, none⟩ v5).setCell ⟨g, 6, none⟩ v6).setCell ⟨g, 7, none⟩ v7).setCell ⟨g, 8, none⟩ v8).setCell ⟨g, 9, none⟩ v9).setCell ⟨g, 10, none⟩ v10) := by
  refine k _ ((((((((((((h.set 0 (by omega) v0).set 1 (by omega) v1).set 2 (by omega) v2).set 3 (by omega) v3).set 4 (by omega) v4).set 5 (by omega) v5).set 6 (by omega) v6).set 7 (by omega) v7).set 8 (by omega) v8).set 9 (by omega) v9).set 10 (by omega) v10).congr (fun i hi => ?_)) ?_
  · have : i = 0 ∨ i = 1 ∨ i = 2 ∨ i = 3 ∨ i = 4 ∨ i = 5 ∨ i = 6 ∨ i = 7 ∨ i = 8 ∨ i = 9 ∨ i = 10 := by omega
    rcases this with rfl | rfl | rfl | rfl | rfl | rfl | rfl | rfl | rfl | rfl | rfl <;> rfl
  · exact (((((((((((Tn.refl (fun k => k = g) w).set _ _ (fun _ => rfl)).set _ _ (fun _ => rfl)).set _ _ (fun _ => rfl)).set _ _ (fun _ => rfl)).set _ _ (fun _ => rfl)).set _ _ (fun _ => rfl)).set _ _ (fun _ => rfl)).set _ _ (fun _ => rfl)).set _ _ (fun _ => rfl)).set _ _ (fun _ => rfl)).set _ _ (fun _ => rfl)

/-- what 'uses' leaves of the instruction that is made ready -/
theorem gath_raw (x : Wd) (pb : Nat) (kind imm : Int) (w : World) (hx : WA w x) (hpb : pb < w.heap.size) (hna : 0 < x.args.length → ∀ g, x.av.ownBlock = some g → ¬ g = pb) (hcb : CB w pb 11 (wcell kind imm ⟨0, 0, fun _ => 0⟩)) (hc : ∀ (n : Nat) (y : Int), (usesF x)[n]? = some (0, y) → (((usesF x).take n).foldl step1 ⟨0, 0, fun _ => 0⟩).c < 5) (hr : ∀ (n : Nat) (u y : Int), (usesF x)[n]? = some (u, y) → u = 0 ∨ u = 1 → 0 ≤ y ∧ y ≤ 4294967295) :
    Calls Tryz.prog 140 #[x.val, .func (.func 144) #[] #[.pointer (some ⟨pb, 0, none⟩)]] w fun e w' => e = .returned (.tuple #[]) ∧ CB w' pb 11 (wcell kind imm (gath x)) ∧ Tn (fun k => k = pb) w w' := by
  refine (uses_raw (K := 144) (cs := #[.pointer (some ⟨pb, 0, none⟩)]) (F := fun k => k = pb) (J := fun n u => CB u pb 11 (wcell kind imm (((usesF x).take n).foldl step1 ⟨0, 0, fun _ => 0⟩))) (w := w) x hx enters_ready
    (fun i e => by rw [e]; exact hpb) hna hcb (fun n u u' hj t => hj.kept (t.block _ hj.lt (fun e => e))) (fun n y z u hn hj => ?_)).mono ?_
  · refine (ready1_raw y z kind imm _ pb u hj (fun e => hc n z (by rw [hn, e])) (fun e => hr n y z hn e)).mono ?_
    rintro e u' ⟨rfl, g1, g2⟩
    refine ⟨rfl, ?_, g2⟩
    rw [List.take_add_one, hn, List.foldl_append]
    exact g1
  · rintro e u' ⟨rfl, g1, g2⟩
    rw [List.take_of_length_le (Nat.le_refl _)] at g1
    exact ⟨rfl, g1, g2⟩
end Go.Proofs.YtoidddfpekbliaaGreat
