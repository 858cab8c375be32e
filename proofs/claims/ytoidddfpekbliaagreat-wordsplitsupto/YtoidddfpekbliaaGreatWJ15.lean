/-
  word: an area's bytes are stored.
-/
import Derived.Test.YtoidddfpekbliaaGreatWJ14
import Derived.OpenShut
import Derived.Laws.BitsAllLaws
namespace Go.Proofs.YtoidddfpekbliaaGreat
set_option linter.unusedSimpArgs false
set_option linter.unusedVariables false
open Go.RowKit
attribute [local go_sem ↓] Go.wp_at_zero Go.wp_at_succ

/-- an area of a process -/
structure AB (p o : Nat) (a : Bool) (base size : Nat) (v2 : Value) (N : Nat) (m : Nat → Int) (w : World) (L : Nat → Option Lb) (c : Nat → Value) : Prop where
  hp : CB w p 18 c
  ho : o + 3 < 18
  e0 : c o = .int .u64 (base : Int)
  e1 : c (o + 1) = .int .u64 (size : Int)
  e2 : c (o + 2) = v2
  ex : ∃ mo pgs, c (o + 3) = .map mo ∧ AR w L a N size v2 mo pgs m
  hL : L p = some .own
  hlt : ∀ k, L k ≠ none → k < w.heap.size

/-- what comes of it -/
def AP (p o : Nat) (a : Bool) (base size : Nat) (v2 : Value) (N : Nat) (m : Nat → Int) (w : World) (L : Nat → Option Lb) (c : Nat → Value) (w' : World) : Prop :=
  ∃ L' c', AB p o a base size v2 N m w' L' c' ∧ Ls p (Lb.isArea a) w L w' L' ∧ ∀ i, i ≠ o + 3 → c' i = c i

theorem AP.trans {p o : Nat} {a : Bool} {base size : Nat} {v2 : Value} {N : Nat} {m : Nat → Int} {w w1 w2 : World} {L L1 : Nat → Option Lb} {c c1 : Nat → Value} (h : AP p o a base size v2 N m w1 L1 c1 w2) (hl : Ls p (Lb.isArea a) w L w1 L1) (hc : ∀ i, i ≠ o + 3 → c1 i = c i) : AP p o a base size v2 N m w L c w2 := by
  obtain ⟨L2, c2, g1, g2, g3⟩ := h
  exact ⟨L2, c2, g1, hl.trans g2, fun i hi => (g3 i hi).trans (hc i hi)⟩
theorem AB.refl {p o : Nat} {a : Bool} {base size : Nat} {v2 : Value} {N : Nat} {m : Nat → Int} {w : World} {L : Nat → Option Lb} {c : Nat → Value} (h : AB p o a base size v2 N m w L c) : AP p o a base size v2 N m w L c w :=
  ⟨L, c, h, Ls.refl _ _ _ _ h.hlt, fun _ _ => rfl⟩
theorem AB.mono {p o : Nat} {a : Bool} {base size : Nat} {v2 : Value} {N M : Nat} {m : Nat → Int} {w : World} {L : Nat → Option Lb} {c : Nat → Value} (h : AB p o a base size v2 N m w L c) (hN : N ≤ M) : AB p o a base size v2 M m w L c := by
  obtain ⟨mo, pgs, e, g⟩ := h.ex
  exact { h with ex := ⟨mo, pgs, e, { g with far := mp_mono g.far hN }⟩ }
theorem AP.mono {p o : Nat} {a : Bool} {base size : Nat} {v2 : Value} {N M : Nat} {m : Nat → Int} {w w' : World} {L : Nat → Option Lb} {c : Nat → Value} (h : AP p o a base size v2 N m w L c w') (hN : N ≤ M) : AP p o a base size v2 M m w L c w' := by
  obtain ⟨L', c', g1, g2⟩ := h
  exact ⟨L', c', g1.mono hN, g2⟩
theorem AB.range {p o : Nat} {a : Bool} {base size : Nat} {v2 : Value} {N : Nat} {m : Nat → Int} {w : World} {L : Nat → Option Lb} {c : Nat → Value} (h : AB p o a base size v2 N m w L c) : ∀ i, 0 ≤ m i ∧ m i ≤ 18446744073709551615 := by
  obtain ⟨mo, pgs, e, g⟩ := h.ex
  exact g.range

section
variable {p o : Nat} {a : Bool} {base size : Nat} {v2 : Value} {N : Nat} {m : Nat → Int} {w : World} {L : Nat → Option Lb} {c : Nat → Value}
theorem word_ab (h : AB p o a base size v2 N m w L c) (n : Nat) (hn : n < 18446744073709551616) :
    Calls Tryz.prog 139 #[.pointer (some ⟨p, o, none⟩), .int .u64 (n : Int)] w fun e w' => e = .returned (.int .u64 (m n)) ∧ w' = w := by
  obtain ⟨mo, pgs, e, g⟩ := h.ex
  exact aword_raw p o L a N base size v2 mo pgs m n w (AC.of h.hp h.ho h.e0 h.e1 h.e2 e) g hn
theorem setWord_ab (h : AB p o a base size v2 N m w L c) (n : Nat) (hn : n < 18446744073709551616) (hN : N < 4611686018427387904) (x : Int) (hx : 0 ≤ x ∧ x ≤ 18446744073709551615) :
    Calls Tryz.prog 73 #[.pointer (some ⟨p, o, none⟩), .int .u64 (n : Int), .int .u64 x] w fun e w' => e = .returned (.tuple #[]) ∧ AP p o a base size v2 (N + 1) (upd m n x) w L c w' := by
  obtain ⟨mo, pgs, e, g⟩ := h.ex
  refine (setWord_raw p o L a N base size v2 mo pgs m c n x w h.hp h.ho h.e0 h.e1 h.e2 e g h.hL h.hlt hn hN hx).mono ?_
  rintro e w' ⟨rfl, L', mo', pgs', g1, g2, g3⟩
  have ho := h.ho
  exact ⟨rfl, L', _, ⟨g1, ho, by rw [upd_other _ _ (by omega)]; exact h.e0, by rw [upd_other _ _ (by omega)]; exact h.e1, by rw [upd_other _ _ (by omega)]; exact h.e2, ⟨mo', pgs', upd_same _ _ _, g2⟩, g3.keep h.hlt h.hL, g3.lt h.hlt⟩, g3, fun i hi => upd_other _ _ hi⟩
theorem load_ab (h : AB p o a base size v2 N m w L c) (x s : Int) (f : Nat) (hf : IntKind.u64.wrap (x - base) = f) (hs : s = 1 ∨ s = 4 ∨ s = 8) (hl : f ≤ 1099511627776) :
    Calls Tryz.prog 92 #[.pointer (some ⟨p, o, none⟩), .int .u64 x, .int .i64 s] w fun e w' => e = .returned (.int .u64 (ldv m f s)) ∧ w' = w := by
  obtain ⟨mo, pgs, e, g⟩ := h.ex
  exact aload_raw m base x s f hf hs hl p o L a N size v2 mo pgs w (AC.of h.hp h.ho h.e0 h.e1 h.e2 e) g

theorem bnd (op : BinOp) (x y : Int) : 0 ≤ bits op .u64 x y ∧ bits op .u64 x y ≤ 18446744073709551615 := bounds_u64 (wf_bits op .u64 x y)

/-- the first word that is stored into, and the second -/
def st1 (m : Nat → Int) (f : Nat) (s y : Int) : Int := bits .or .u64 (bits .andNot .u64 (m (f / 8)) (IntKind.u64.wrap (lw s * 2 ^ (f % 8 * 8)))) (IntKind.u64.wrap (bits .and .u64 y (lw s) * 2 ^ (f % 8 * 8)))
def st2 (m : Nat → Int) (f : Nat) (s y : Int) : Int := bits .or .u64 (bits .andNot .u64 (m (f / 8 + 1)) (lw s / 2 ^ (64 - f % 8 * 8))) (bits .and .u64 y (lw s) / 2 ^ (64 - f % 8 * 8))
def stm (m : Nat → Int) (f : Nat) (s y : Int) : Nat → Int :=
  if (f : Int) % 8 * 8 + s * 8 ≤ 64 then upd m (f / 8) (st1 m f s y) else upd (upd m (f / 8) (st1 m f s y)) (f / 8 + 1) (st2 m f s y)

theorem lw_nonneg (s : Int) : 0 ≤ lw s := by
  unfold lw
  split
  · decide
  · split <;> decide

set_option maxHeartbeats 2000000 in
set_option maxRecDepth 100000 in
theorem store_ab (h : AB p o a base size v2 N m w L c) (x y s : Int) (f : Nat) (hf : IntKind.u64.wrap (x - base) = f) (hs : s = 1 ∨ s = 4 ∨ s = 8) (hl : f ≤ 1099511627776) (hN : N < 4611686018427387900) :
    Calls Tryz.prog 91 #[.pointer (some ⟨p, o, none⟩), .int .u64 x, .int .i64 s, .int .u64 y] w fun e w' => e = .returned (.tuple #[]) ∧ AP p o a base size v2 (N + 2) (stm m f s y) w L c w' := by
  have e1 : ((f / 8 : Nat) : Int) = (f : Int) / 8 := by omega
  have e2 : ((f / 8 + 1 : Nat) : Int) = (f : Int) / 8 + 1 := by omega
  have HP := hid (word_ab h (f / 8) (by omega))
  have HS := hid (setWord_ab h (f / 8) (by omega) (by omega))
  have c0 := h.hp.cell o (by have := h.ho; omega)
  rw [h.e0] at c0
  have HL := hid (lowest_raw s hs)
  obtain ⟨q, hq⟩ : ∃ q, (f : Int) / 8 = q := ⟨_, rfl⟩
  have hq1 : 0 ≤ q := by omega
  have hq2 : q ≤ 1099511627776 := by omega
  rw [e1, hq] at HP HS
  have HM := hid h.range
  clear h
  by_cases hb : (f : Int) % 8 * 8 + s * 8 ≤ 64
  · have HV := hid (show stm m f s y = _ from if_pos hb)
    go_enter Tryz.func91, Tryz.ntmps91
    go_wp2_with (first | (go_at_call 139; refine HP.out.mono ?_; rintro e w' ⟨rfl, rfl⟩) | (go_at_call 138; refine (HL.out _).mono ?_; rintro e w' ⟨rfl, rfl⟩) | (go_at_call 73; refine (HS.out _ (bnd _ _ _)).mono ?_; rintro e w1 ⟨rfl, hap⟩; have HA := hid hap; clear hap))
    go_end0
    exact ⟨rfl, by rw [HV.out]; exact HA.out.mono (by omega)⟩
  · have HV := hid (show stm m f s y = _ from if_neg hb)
    have HNX : Hid (∀ z w1, AP p o a base size v2 (N + 1) (upd m (f / 8) z) w L c w1 → (Calls Tryz.prog 139 #[.pointer (some ⟨p, o, none⟩), .int .u64 (q + 1)] w1 fun e w' => e = .returned (.int .u64 (m (f / 8 + 1))) ∧ w1 = w') ∧
        ∀ x, 0 ≤ x ∧ x ≤ 18446744073709551615 → Calls Tryz.prog 73 #[.pointer (some ⟨p, o, none⟩), .int .u64 (q + 1), .int .u64 x] w1 fun e w' => e = .returned (.tuple #[]) ∧ AP p o a base size v2 (N + 2) (upd (upd m (f / 8) z) (f / 8 + 1) x) w L c w') := by
      rintro z w1 ⟨L1, c1, hab, hls, hcc⟩
      have k1 := word_ab hab (f / 8 + 1) (by omega)
      rw [e2, hq, upd_other _ _ (by omega)] at k1
      refine ⟨k1.mono (fun e w' he => ⟨he.1, he.2.symm⟩), fun x hx => ?_⟩
      have k2 := setWord_ab hab (f / 8 + 1) (by omega) (by omega) x hx
      rw [e2, hq] at k2
      exact k2.mono (fun e w' he => ⟨he.1, he.2.trans hls hcc⟩)
    rw [Int.not_le] at hb
    have h64 : (0:Int) ≤ 64 - (f : Int) % 8 * 8 := by omega
    have h65 : (64 - (f : Int) % 8 * 8) = ((64 - f % 8 * 8 : Nat) : Int) := by omega
    have hlw := lw_nonneg s
    have hby := bnd .and y (lw s)
    have HBY := hid hby
    go_enter Tryz.func91, Tryz.ntmps91
    go_wp2_with (first
      | (go_at_call_of 139 (Value.int IntKind.u64 q); refine HP.out.mono ?_; rintro e w' ⟨rfl, rfl⟩)
      | (go_at_call 138; refine (HL.out _).mono ?_; rintro e w' ⟨rfl, rfl⟩)
      | (go_at_call_of 73 (Value.int IntKind.u64 q); refine (HS.out _ (bnd _ _ _)).mono ?_; rintro e w1 ⟨rfl, hap⟩; obtain ⟨n1, n2⟩ := HNX.out _ w1 hap; have HP2 := hid n1; have HS2 := hid n2; clear hap n1 n2)
      | (go_at_call 139; refine HP2.out.mono ?_; rintro e w' ⟨rfl, rfl⟩)
      | (go_at_call 73; refine (HS2.out _ (bnd _ _ _)).mono ?_; rintro e w2 ⟨rfl, hap⟩; have HA := hid hap; clear hap))

    go_end0
    exact ⟨rfl, by rw [HV.out]; exact HA.out⟩
end
end Go.Proofs.YtoidddfpekbliaaGreat
namespace Go.Proofs.YtoidddfpekbliaaGreat
set_option linter.unusedSimpArgs false
set_option linter.unusedVariables false
open Go.RowKit
attribute [local go_sem ↓] Go.wp_at_zero Go.wp_at_succ

/-- a memory: sizes and words of the data and the heap -/
structure Mem where
  sd : Nat
  sh : Nat
  md : Nat → Int
  mh : Nat → Int

def Lb.isMem (l : Lb) : Prop := l.isArea false ∨ l.isArea true

structure MB (p N : Nat) (M : Mem) (vd vh : Value) (w : World) (L : Nat → Option Lb) (c : Nat → Value) : Prop where
  d : AB p 1 false 268435456 M.sd vd N M.md w L c
  h : AB p 5 true 1073741824 M.sh vh N M.mh w L c
  bd : M.sd ≤ 1099511627776
  bh : M.sh ≤ 1099511627776

def MPost (p N : Nat) (M : Mem) (vd vh : Value) (w : World) (L : Nat → Option Lb) (c : Nat → Value) (w' : World) : Prop :=
  ∃ L' c', MB p N M vd vh w' L' c' ∧ Ls p Lb.isMem w L w' L' ∧ ∀ i, i ≠ 4 → i ≠ 8 → c' i = c i

theorem MPost.trans {p N : Nat} {M : Mem} {vd vh : Value} {w w1 w2 : World} {L L1 : Nat → Option Lb} {c c1 : Nat → Value} (h : MPost p N M vd vh w1 L1 c1 w2) (hl : Ls p Lb.isMem w L w1 L1) (hc : ∀ i, i ≠ 4 → i ≠ 8 → c1 i = c i) : MPost p N M vd vh w L c w2 := by
  obtain ⟨L2, c2, g1, g2, g3⟩ := h
  exact ⟨L2, c2, g1, hl.trans g2, fun i h1 h2 => (g3 i h1 h2).trans (hc i h1 h2)⟩
theorem MB.refl {p N : Nat} {M : Mem} {vd vh : Value} {w : World} {L : Nat → Option Lb} {c : Nat → Value} (h : MB p N M vd vh w L c) : MPost p N M vd vh w L c w :=
  ⟨L, c, h, Ls.refl _ _ _ _ h.d.hlt, fun _ _ _ => rfl⟩
theorem MB.mono {p N K : Nat} {M : Mem} {vd vh : Value} {w : World} {L : Nat → Option Lb} {c : Nat → Value} (h : MB p N M vd vh w L c) (hN : N ≤ K) : MB p K M vd vh w L c :=
  ⟨h.d.mono hN, h.h.mono hN, h.bd, h.bh⟩
theorem MPost.mono {p N K : Nat} {M : Mem} {vd vh : Value} {w w' : World} {L : Nat → Option Lb} {c : Nat → Value} (h : MPost p N M vd vh w L c w') (hN : N ≤ K) : MPost p K M vd vh w L c w' := by
  obtain ⟨L', c', g1, g2⟩ := h
  exact ⟨L', c', g1.mono hN, g2⟩

theorem Ls.weak {p : Nat} {P Q : Lb → Prop} {w w' : World} {L L' : Nat → Option Lb} (h : Ls p P w L w' L') (hPQ : ∀ l, P l → Q l) : Ls p Q w L w' L' :=
  ⟨h.tn.mono (fun i _ e => e.imp id (fun ⟨l, e1, e2⟩ => ⟨l, e1, hPQ l e2⟩)), h.old, fun k l hk e => ⟨hPQ l (h.new k l hk e).1, (h.new k l hk e).2⟩⟩

/-- an area stays where blocks of others turn -/
theorem AB.kept {p o : Nat} {a : Bool} {base size : Nat} {v2 : Value} {N : Nat} {m : Nat → Int} {w w' : World} {L L' : Nat → Option Lb} {c c' : Nat → Value} {P : Lb → Prop} (h : AB p o a base size v2 N m w L c)
    (hl : Ls p P w L w' L') (hP : ∀ l, l.isArea a → ¬ P l) (hcb : CB w' p 18 c') (hc : ∀ i, o ≤ i → i ≤ o + 3 → c' i = c i) : AB p o a base size v2 N m w' L' c' := by
  obtain ⟨mo, pgs, e, g⟩ := h.ex
  refine ⟨hcb, h.ho, by rw [hc _ (by omega) (by omega)]; exact h.e0, by rw [hc _ (by omega) (by omega)]; exact h.e1, by rw [hc _ (by omega) (by omega)]; exact h.e2, ⟨mo, pgs, by rw [hc _ (by omega) (by omega)]; exact e, g.kept (fun k l el ha => ?_) (fun k l el => hl.keep h.hlt el)⟩, hl.keep h.hlt h.hL, hl.lt h.hlt⟩
  refine hl.tn.block k (h.hlt k (by rw [el]; simp)) ?_
  rintro (rfl | ⟨l', e1, e2⟩)
  · rw [h.hL] at el; cases el; exact ha
  · rw [el] at e1; cases e1; exact hP l ha e2

theorem isArea_not {a : Bool} {l : Lb} (h : l.isArea a) : ¬ l.isArea (!a) := by
  cases l <;> simp [Lb.isArea] at h ⊢ <;> subst h <;> simp

section
variable {p N : Nat} {M : Mem} {vd vh : Value} {w : World} {L : Nat → Option Lb} {c : Nat → Value}

theorem MB.setH (h : MB p N M vd vh w L c) {K : Nat} {mh' : Nat → Int} {w' : World} (hK : N ≤ K) (ha : AP p 5 true 1073741824 M.sh vh K mh' w L c w') : MPost p K { M with mh := mh' } vd vh w L c w' := by
  obtain ⟨L', c', g1, g2, g3⟩ := ha
  refine ⟨L', c', ⟨((h.d).mono hK).kept g2 (fun l hl => isArea_not hl) g1.hp (fun i h1 h2 => g3 i (by omega)), g1, h.bd, h.bh⟩, g2.weak (fun l hl => .inr hl), fun i _ h2 => g3 i (by omega)⟩
theorem MB.setD (h : MB p N M vd vh w L c) {K : Nat} {md' : Nat → Int} {w' : World} (hK : N ≤ K) (ha : AP p 1 false 268435456 M.sd vd K md' w L c w') : MPost p K { M with md := md' } vd vh w L c w' := by
  obtain ⟨L', c', g1, g2, g3⟩ := ha
  refine ⟨L', c', ⟨g1, ((h.h).mono hK).kept g2 (fun l hl => isArea_not hl) g1.hp (fun i h1 h2 => g3 i (by omega)), h.bd, h.bh⟩, g2.weak (fun l hl => .inl hl), fun i h1 _ => g3 i (by omega)⟩

/-- which area has so many bytes at an address (true: the heap) -/
def partOf (M : Mem) (x n : Int) : Option Bool := if hasB 1073741824 M.sh x n then some true else if hasB 268435456 M.sd x n then some false else none
def partV (p : Nat) : Option Bool → Value
  | none => .pointer none
  | some true => .pointer (some ⟨p, 5, none⟩)
  | some false => .pointer (some ⟨p, 1, none⟩)

set_option maxHeartbeats 1000000 in
theorem part_mb (h : MB p N M vd vh w L c) (x n : Int) : Calls Tryz.prog 90 #[.pointer (some ⟨p, 1, none⟩), .int .u64 x, .int .u64 n] w fun e w' => e = .returned (partV p (partOf M x n)) ∧ w' = w := by
  have HD := hid (ahas_raw p 1 268435456 M.sd x n w (by rw [h.d.hp.cell 1 (by omega), h.d.e0]) (by rw [h.d.hp.cell 2 (by omega), h.d.e1]))
  have HH := hid (ahas_raw p 5 1073741824 M.sh x n w (by rw [h.h.hp.cell 5 (by omega), h.h.e0]) (by rw [h.h.hp.cell 6 (by omega), h.h.e1]))
  clear h
  unfold partOf
  cases h1 : hasB 1073741824 M.sh x n
  · rw [h1] at HH
    cases h2 : hasB 268435456 M.sd x n
    · rw [h2] at HD
      go_enter Tryz.func90, Tryz.ntmps90
      go_wp2_with (first
        | (go_at_call_of 137 (Value.pointer (some ⟨p, 5, none⟩)); refine HH.out.mono ?_; rintro e w' ⟨rfl, rfl⟩)
        | (go_at_call 137; refine HD.out.mono ?_; rintro e w' ⟨rfl, rfl⟩))
      go_ret
      exact ⟨rfl, rfl⟩
    · rw [h2] at HD
      go_enter Tryz.func90, Tryz.ntmps90
      go_wp2_with (first
        | (go_at_call_of 137 (Value.pointer (some ⟨p, 5, none⟩)); refine HH.out.mono ?_; rintro e w' ⟨rfl, rfl⟩)
        | (go_at_call 137; refine HD.out.mono ?_; rintro e w' ⟨rfl, rfl⟩))
      go_ret
      exact ⟨rfl, rfl⟩
  · rw [h1] at HH
    go_enter Tryz.func90, Tryz.ntmps90
    go_wp2_with (go_at_call 137; refine HH.out.mono ?_; rintro e w' ⟨rfl, rfl⟩)
    go_ret
    exact ⟨rfl, rfl⟩

def Mem.base : Bool → Nat
  | true => 1073741824
  | false => 268435456
def Mem.words (M : Mem) : Bool → Nat → Int
  | true => M.mh
  | false => M.md
def Mem.put (M : Mem) : Bool → (Nat → Int) → Mem
  | true, m => { M with mh := m }
  | false, m => { M with md := m }
/-- the place within the area -/
def Mem.off (a : Bool) (x : Int) : Nat := (IntKind.u64.wrap (x - Mem.base a)).toNat

/-- what is loaded -/
def Mem.load (M : Mem) (x s : Int) : Option Int := (partOf M x s).map fun a => ldv (M.words a) (Mem.off a x) s
/-- what is stored -/
def Mem.store (M : Mem) (x s y : Int) : Option Mem := (partOf M x s).map fun a => M.put a (stm (M.words a) (Mem.off a x) s y)
/-- are n bytes there? -/
def Mem.there (M : Mem) (x n : Int) : Bool := decide (n = 0) || (partOf M x n).isSome

theorem wrap_nonneg (x : Int) : 0 ≤ IntKind.u64.wrap x := (bounds_u64 (wf_wrap .u64 x)).1
theorem wrap_le (x : Int) : IntKind.u64.wrap x ≤ 18446744073709551615 := (bounds_u64 (wf_wrap .u64 x)).2
theorem off_eq (a : Bool) (x : Int) : IntKind.u64.wrap (x - Mem.base a) = (Mem.off a x : Int) := by
  unfold Mem.off
  rw [Int.toNat_of_nonneg (wrap_nonneg _)]

theorem partOf_off (h : MB p N M vd vh w L c) {x n : Int} {a : Bool} (e : partOf M x n = some a) : Mem.off a x ≤ 1099511627776 := by
  have key : ∀ (b s : Nat), hasB b s x n = true → s ≤ 1099511627776 → (IntKind.u64.wrap (x - b)).toNat ≤ 1099511627776 := by
    intro b s hh hs
    simp only [hasB, Bool.and_eq_true, decide_eq_true_iff] at hh
    have := hh.1
    omega
  unfold partOf at e
  split at e
  · cases e; exact key _ _ (by assumption) h.bh
  · split at e
    · cases e; exact key _ _ (by assumption) h.bd
    · cases e

theorem load_area (h : MB p N M vd vh w L c) (x s : Int) (hs : s = 1 ∨ s = 4 ∨ s = 8) (a : Bool) (e : partOf M x s = some a) :
    Calls Tryz.prog 92 #[partV p (some a), .int .u64 x, .int .i64 s] w fun e w' => e = .returned (.int .u64 (ldv (M.words a) (Mem.off a x) s)) ∧ w' = w := by
  have ho := partOf_off h e
  cases a
  · exact load_ab h.d x s _ (off_eq false x) hs ho
  · exact load_ab h.h x s _ (off_eq true x) hs ho
theorem store_area (h : MB p N M vd vh w L c) (x s y : Int) (hs : s = 1 ∨ s = 4 ∨ s = 8) (hN : N < 4611686018427387900) (a : Bool) (e : partOf M x s = some a) :
    Calls Tryz.prog 91 #[partV p (some a), .int .u64 x, .int .i64 s, .int .u64 y] w fun e w' => e = .returned (.tuple #[]) ∧ MPost p (N + 2) (M.put a (stm (M.words a) (Mem.off a x) s y)) vd vh w L c w' := by
  have ho := partOf_off h e
  cases a
  · exact (store_ab h.d x y s _ (off_eq false x) hs ho hN).mono (fun e w' he => ⟨he.1, h.setD (by omega) he.2⟩)
  · exact (store_ab h.h x y s _ (off_eq true x) hs ho hN).mono (fun e w' he => ⟨he.1, h.setH (by omega) he.2⟩)

set_option maxHeartbeats 1000000 in
theorem mload_raw (h : MB p N M vd vh w L c) (x s : Int) (hs : s = 1 ∨ s = 4 ∨ s = 8) : Calls Tryz.prog 57 #[.pointer (some ⟨p, 1, none⟩), .int .u64 x, .int .i64 s] w fun e w' => e = .returned (.tuple #[.int .u64 ((M.load x s).getD 0), .bool (M.load x s).isSome]) ∧ w' = w := by
  have HP := hid (part_mb h x s)
  have HL := hid (load_area h x s hs)
  clear h
  have hs1 : 0 ≤ s := by omega
  have hs2 : s ≤ 8 := by omega
  unfold Mem.load
  cases e : partOf M x s with
  | none =>
    rw [e] at HP
    simp only [partV] at HP
    go_enter Tryz.func57, Tryz.ntmps57
    go_wp2_with (go_at_call 90; refine HP.out.mono ?_; rintro e w' ⟨rfl, rfl⟩)
    go_ret2
    exact ⟨rfl, rfl⟩
  | some a =>
    rw [e] at HP
    have HL2 := hid (HL.out a e)
    clear HL e
    cases a
    all_goals
      simp only [partV] at HP HL2
      go_enter Tryz.func57, Tryz.ntmps57
      go_wp2_with (first
        | (go_at_call 90; refine HP.out.mono ?_; rintro e w' ⟨rfl, rfl⟩)
        | (go_at_call 92; refine HL2.out.mono ?_; rintro e w' ⟨rfl, rfl⟩))
      go_ret2
      exact ⟨rfl, rfl⟩

set_option maxHeartbeats 1000000 in
theorem mstore_raw (h : MB p N M vd vh w L c) (x s y : Int) (hs : s = 1 ∨ s = 4 ∨ s = 8) (hN : N < 4611686018427387900) : Calls Tryz.prog 54 #[.pointer (some ⟨p, 1, none⟩), .int .u64 x, .int .i64 s, .int .u64 y] w fun e w' => e = .returned (.bool (M.store x s y).isSome) ∧ MPost p (N + 2) ((M.store x s y).getD M) vd vh w L c w' := by
  have HP := hid (part_mb h x s)
  have HL := hid (store_area h x s y hs hN)
  have HR := hid h
  clear h
  have hs1 : 0 ≤ s := by omega
  have hs2 : s ≤ 8 := by omega
  unfold Mem.store
  cases e : partOf M x s with
  | none =>
    rw [e] at HP
    simp only [partV] at HP
    go_enter Tryz.func54, Tryz.ntmps54
    go_wp2_with (go_at_call 90; refine HP.out.mono ?_; rintro e w' ⟨rfl, rfl⟩)
    go_ret
    exact ⟨rfl, (HR.out.mono (by omega)).refl⟩
  | some a =>
    rw [e] at HP
    have HL2 := hid (HL.out a e)
    clear HL e
    cases a
    all_goals
      simp only [partV] at HP HL2
      go_enter Tryz.func54, Tryz.ntmps54
      go_wp2_with (first
        | (go_at_call 90; refine HP.out.mono ?_; rintro e w' ⟨rfl, rfl⟩)
        | (go_at_call 91; refine HL2.out.mono ?_; rintro e w1 ⟨rfl, hap⟩; have HA := hid hap; clear hap))
      go_ret
      exact ⟨rfl, HA.out⟩

set_option maxHeartbeats 1000000 in
theorem mthere_raw (h : MB p N M vd vh w L c) (x n : Int) : Calls Tryz.prog 161 #[.pointer (some ⟨p, 1, none⟩), .int .u64 x, .int .u64 n] w fun e w' => e = .returned (.bool (M.there x n)) ∧ w' = w := by
  have HP := hid (part_mb h x n)
  clear h
  unfold Mem.there
  by_cases hn : n = 0
  · subst hn
    go_enter Tryz.func161, Tryz.ntmps161
    go_wp2
    go_ret
    exact ⟨rfl, rfl⟩
  · have hn2 : (n == 0) = false := by simpa using hn
    rw [decide_eq_false hn]
    cases e : partOf M x n with
    | none =>
      rw [e] at HP
      simp only [partV] at HP
      go_enter Tryz.func161, Tryz.ntmps161
      go_wp2_with (go_at_call 90; refine HP.out.mono ?_; rintro e w' ⟨rfl, rfl⟩)
      go_ret
      exact ⟨rfl, rfl⟩
    | some a =>
      rw [e] at HP
      cases a
      all_goals
        simp only [partV] at HP
        go_enter Tryz.func161, Tryz.ntmps161
        go_wp2_with (go_at_call 90; refine HP.out.mono ?_; rintro e w' ⟨rfl, rfl⟩)
        go_ret
        exact ⟨rfl, rfl⟩
end
end Go.Proofs.YtoidddfpekbliaaGreat
namespace Go.Proofs.YtoidddfpekbliaaGreat
set_option linter.unusedSimpArgs false
set_option linter.unusedVariables false
open Go.RowKit
attribute [local go_sem ↓] Go.wp_at_zero Go.wp_at_succ

/-- a leaf's cells -/
def lfc (s : Int) (c : Nat → Int) (i : Nat) : Value := if i = 0 then .int .u32 s else .int .u64 (c (i - 1))
/-- is a bit set? -/
def tb (s : Int) (i : Nat) : Bool := !(bits .and .u32 (s / 2 ^ i) 1 == 0)

structure LF (w : World) (g : Nat) (s : Int) (c : Nat → Int) : Prop where
  cb : CB w g 33 (lfc s c)
  rs : 0 ≤ s ∧ s ≤ 4294967295

structure BK (w : World) (L : Nat → Option Lb) (j : Nat) (r : Bool) (N : Nat) (first near mo : Option Nat) (lvs : Nat → Option Nat) (B : Nat → Option Int) : Prop where
  f0 : lvs 0 = first
  nr : ∀ g, near = some g → L g = some (.nr j r) ∧ CB w g 64 (fun i => pv (if i = 0 then none else lvs i))
  nn : near = none → ∀ i, 1 ≤ i → i < 64 → lvs i = none
  far : MP 184 w mo N (fun n => if n < 64 then none else lvs n)
  labf : ∀ b, mo = some b → L b = some (.fm j r)
  lf : ∀ n g, lvs n = some g → L g = some (.lf j r n) ∧ ∃ s c, LF w g s c ∧ ∀ i, i < 32 → B (32 * n + i) = if tb s i then some (c i) else none
  no : ∀ n, lvs n = none → ∀ i, i < 32 → B (32 * n + i) = none
  rg : ∀ i v, B i = some v → 0 ≤ v ∧ v ≤ 18446744073709551615

theorem zeroLeaf (w : World) : (zeroValue 163).run Tryz.prog w = .ok (.pointer none) w := by kernel_rfl

section
variable {b o : Nat} {L : Nat → Option Lb} {j : Nat} {r : Bool} {N : Nat} {first near mo : Option Nat} {lvs : Nat → Option Nat} {B : Nat → Option Int} {w : World}

set_option maxHeartbeats 1000000 in
theorem other_raw (h : BK w L j r N first near mo lvs B) (c1 : w.cell? ⟨b, o + 1, none⟩ = some (pv near)) (c2 : w.cell? ⟨b, o + 2, none⟩ = some (.map mo)) (n : Nat) (h0 : 1 ≤ n) (hn : n < 18446744073709551616) :
    Calls Tryz.prog 145 #[.pointer (some ⟨b, o, none⟩), .int .u64 (n : Int)] w fun e w' => e = .returned (pv (lvs n)) ∧ w' = w := by
  by_cases hl : n < 64
  · have hl2 : (n : Int) < 64 := by omega
    cases e : near with
    | none =>
      have := h.nn e n h0 hl
      rw [this]
      rw [e, pv_none] at c1
      clear h
      go_enter Tryz.func145, Tryz.ntmps145
      go_wp2
      go_ret
      exact ⟨rfl, rfl⟩
    | some g =>
      have k := (h.nr g e).2.cell n hl
      simp only [show ¬ n = 0 by omega, if_false] at k
      rw [e, pv_some] at c1
      clear h
      go_enter Tryz.func145, Tryz.ntmps145
      go_wp2
      go_ret
      exact ⟨rfl, rfl⟩
  · have hlk := mp_look h.far Tryz.underlying184 Tryz.underlying165 (zeroLeaf w) n hn
    simp only [hl, if_false] at hlk
    have hl2 : 64 ≤ (n : Int) := by omega
    have HR := hid hlk
    clear h hlk hn
    go_enter Tryz.func145, Tryz.ntmps145
    go_wp2_with (at_lookup; refine wpList_lookw _ rfl _ _ false rfl mo rfl _ rfl _ HR.out ?_)
    go_ret
    exact ⟨rfl, rfl⟩

set_option maxHeartbeats 1000000 in
theorem leaf_raw (h : BK w L j r N first near mo lvs B) (c0 : w.cell? ⟨b, o, none⟩ = some (pv first)) (c1 : w.cell? ⟨b, o + 1, none⟩ = some (pv near)) (c2 : w.cell? ⟨b, o + 2, none⟩ = some (.map mo)) (n : Nat) (hn : n < 18446744073709551616) :
    Calls Tryz.prog 119 #[.pointer (some ⟨b, o, none⟩), .int .u64 (n : Int)] w fun e w' => e = .returned (pv (lvs n)) ∧ w' = w := by
  by_cases h0 : n = 0
  · subst h0
    have := h.f0
    rw [this]
    clear h
    go_enter Tryz.func119, Tryz.ntmps119
    go_wp2
    go_ret
    exact ⟨rfl, rfl⟩
  · have HO := hid (other_raw h c1 c2 n (by omega) hn)
    have h1 : ((n : Int) == 0) = false := by simp; omega
    clear h hn
    go_enter Tryz.func119, Tryz.ntmps119
    go_wp2_with (go_at_call 145; refine HO.out.mono ?_; rintro e w' ⟨rfl, rfl⟩)
    go_ret
    exact ⟨rfl, rfl⟩

set_option maxHeartbeats 1000000 in
theorem get_raw (h : BK w L j r N first near mo lvs B) (c0 : w.cell? ⟨b, o, none⟩ = some (pv first)) (c1 : w.cell? ⟨b, o + 1, none⟩ = some (pv near)) (c2 : w.cell? ⟨b, o + 2, none⟩ = some (.map mo)) (i : Nat) (hi : i < 18446744073709551616) :
    Calls Tryz.prog 78 #[.pointer (some ⟨b, o, none⟩), .int .u64 (i : Int)] w fun e w' => e = .returned (.tuple #[.int .u64 ((B i).getD 0), .bool (B i).isSome]) ∧ w' = w := by
  have HL := hid (leaf_raw h c0 c1 c2 (i / 32) (by omega))
  have e1 : ((i / 32 : Nat) : Int) = (i : Int) / 32 := by omega
  have e2 : 32 * (i / 32) + i % 32 = i := by omega
  rw [e1] at HL
  cases e : lvs (i / 32) with
  | none =>
    have hb := h.no _ e (i % 32) (by omega)
    rw [e2] at hb
    rw [hb]
    rw [e, pv_none] at HL
    clear h
    go_enter Tryz.func78, Tryz.ntmps78
    go_wp2_with (go_at_call 119; refine HL.out.mono ?_; rintro e w' ⟨rfl, rfl⟩)
    go_ret2
    exact ⟨rfl, rfl⟩
  | some g =>
    obtain ⟨hgl, s, c, hlf, hbb⟩ := h.lf _ g e
    have hb := hbb (i % 32) (by omega)
    rw [e2] at hb
    rw [e, pv_some] at HL
    have k0 := hlf.cb.cell 0 (by omega)
    have k1 := hlf.cb.cell (i % 32 + 1) (by omega)
    simp only [lfc, if_true] at k0
    simp only [lfc, show ¬ (i % 32 + 1 = 0) by omega, if_false, Nat.add_sub_cancel] at k1
    have hrs := hlf.rs.1
    have k2 : w.cell? ⟨g, 1 + i % 32, none⟩ = some (.int .u64 (c (i % 32))) := by rw [Nat.add_comm]; exact k1
    clear h hbb hlf
    cases ht : tb s (i % 32)
    · have hz : (bits .and .u32 (s / 2 ^ (i % 32)) 1 == 0) = true := by unfold tb at ht; simpa using ht
      rw [ht] at hb
      simp only [Bool.false_eq_true, if_false] at hb
      rw [hb]
      clear ht hb
      go_enter Tryz.func78, Tryz.ntmps78
      go_wp2_with (go_at_call 119; refine HL.out.mono ?_; rintro e w' ⟨rfl, rfl⟩)
      go_ret2
      exact ⟨rfl, rfl⟩
    · have hz : (bits .and .u32 (s / 2 ^ (i % 32)) 1 == 0) = false := by unfold tb at ht; simpa using ht
      rw [ht] at hb
      simp only [if_true] at hb
      rw [hb]
      clear ht hb
      go_enter Tryz.func78, Tryz.ntmps78
      go_wp2_with (go_at_call 119; refine HL.out.mono ?_; rintro e w' ⟨rfl, rfl⟩)
      go_ret2
      exact ⟨rfl, rfl⟩
end
end Go.Proofs.YtoidddfpekbliaaGreat
namespace Go.Proofs.YtoidddfpekbliaaGreat
set_option linter.unusedSimpArgs false
set_option linter.unusedVariables false
open Go.RowKit
attribute [local go_sem ↓] Go.wp_at_zero Go.wp_at_succ

/-- what happens to a process's blocks: those of F, and those that P names, may turn; what is new, or named anew, P names -/
structure Lq (F : Nat → Prop) (P : Lb → Prop) (w : World) (L : Nat → Option Lb) (w' : World) (L' : Nat → Option Lb) : Prop where
  tn : Tn (fun k => F k ∨ ∃ l, L k = some l ∧ P l) w w'
  old : ∀ k l, L k = some l → ¬ P l → L' k = some l
  new : ∀ k l, L' k = some l → k < w'.heap.size ∧ (P l ∨ L k = some l)
  non : ∀ k, k < w.heap.size → L k = none → L' k = none

theorem Lq.refl (F : Nat → Prop) (P : Lb → Prop) (w : World) (L : Nat → Option Lb) (hl : ∀ k, L k ≠ none → k < w.heap.size) : Lq F P w L w L :=
  ⟨Tn.refl _ _, fun _ _ e _ => e, fun k l e => ⟨hl k (by rw [e]; simp), .inr e⟩, fun _ _ e => e⟩
theorem Lq.trans {F : Nat → Prop} {P : Lb → Prop} {w w1 w2 : World} {L L1 L2 : Nat → Option Lb} (h : Lq F P w L w1 L1) (k : Lq F P w1 L1 w2 L2) : Lq F P w L w2 L2 := by
  refine ⟨h.tn.trans k.tn (fun _ _ e => e) (fun i hi e => ?_), fun i l e hP => k.old i l (h.old i l e hP) hP, fun i l e => ?_, fun i hi e => k.non i (Nat.lt_of_lt_of_le hi h.tn.size) (h.non i hi e)⟩
  · rcases e with e | ⟨l, e1, e2⟩
    · exact .inl e
    · right
      cases e3 : L i with
      | none => rw [h.non i hi e3] at e1; cases e1
      | some l' =>
        by_cases hP : P l'
        · exact ⟨l', rfl, hP⟩
        · rw [h.old i l' e3 hP] at e1; cases e1; exact absurd e2 hP
  · obtain ⟨h1, h2⟩ := k.new i l e
    refine ⟨h1, ?_⟩
    rcases h2 with h2 | h2
    · exact .inl h2
    · exact (h.new i l h2).2
theorem Lq.weak {F G : Nat → Prop} {P Q : Lb → Prop} {w w' : World} {L L' : Nat → Option Lb} (h : Lq F P w L w' L') (hF : ∀ k, F k → G k) (hPQ : ∀ l, P l → Q l) : Lq G Q w L w' L' :=
  ⟨h.tn.mono (fun i _ e => e.imp (hF i) (fun ⟨l, e1, e2⟩ => ⟨l, e1, hPQ l e2⟩)), fun k l e hP => h.old k l e (fun q => hP (hPQ l q)), fun k l e => ⟨(h.new k l e).1, (h.new k l e).2.imp (hPQ l) id⟩, h.non⟩
theorem Lq.lt {F : Nat → Prop} {P : Lb → Prop} {w w' : World} {L L' : Nat → Option Lb} (h : Lq F P w L w' L') : ∀ k, L' k ≠ none → k < w'.heap.size := by
  intro k hk
  cases e : L' k with
  | none => exact absurd e hk
  | some l => exact (h.new k l e).1
/-- a block that P doesn't name, and that isn't F's, stays -/
theorem Lq.keep {F : Nat → Prop} {P : Lb → Prop} {w w' : World} {L L' : Nat → Option Lb} (h : Lq F P w L w' L') (hl : ∀ k, L k ≠ none → k < w.heap.size) {k : Nat} {l : Lb} (e : L k = some l) (hP : ¬ P l) (hF : ¬ F k) : w'.heap[k]? = w.heap[k]? :=
  h.tn.block k (hl k (by rw [e]; simp)) (by rintro (q | ⟨l', e1, e2⟩); exact hF q; rw [e] at e1; cases e1; exact hP e2)
theorem Ls.lq {p : Nat} {P : Lb → Prop} {w w' : World} {L L' : Nat → Option Lb} (h : Ls p P w L w' L') (hl : ∀ k, L k ≠ none → k < w.heap.size) : Lq (fun k => k = p) P w L w' L' := by
  refine ⟨h.tn, fun k l e _ => h.keep hl e, fun k l e => ⟨h.lt hl k (by rw [e]; simp), ?_⟩, fun k hk e => by rw [h.old k hk]; exact e⟩
  by_cases hc : k < w.heap.size
  · exact .inr (by rw [← h.old k hc]; exact e)
  · exact .inl (h.new k l (by omega) e).1

/-- the spare leaves -/
structure SPR (w : World) (L : Nat → Option Lb) (sv : Value) (sp : List Nat) : Prop where
  rw : RW w 1 sv sp.length
  lab : ∀ g, sv.ownBlock = some g → L g = some .spr
  at' : ∀ i g, sp[i]? = some g → vc w sv i = some (pv (some g)) ∧ L g = some (.sp i) ∧ ∃ s c, LF w g s c
  len : sp.length ≤ 1024

theorem LF.kept {w w' : World} {g : Nat} {s : Int} {c : Nat → Int} (h : LF w g s c) (hk : w'.heap[g]? = w.heap[g]?) : LF w' g s c := ⟨h.cb.kept hk, h.rs⟩
theorem SPR.kept {w w' : World} {L L' : Nat → Option Lb} {sv : Value} {sp : List Nat} (h : SPR w L sv sp) (hk : ∀ k, L k = some .spr ∨ (∃ i, L k = some (.sp i)) → w'.heap[k]? = w.heap[k]?) (hl : ∀ k, L k = some .spr ∨ (∃ i, L k = some (.sp i)) → L' k = L k) : SPR w' L' sv sp := by
  have hn : ∀ g, sv.ownBlock = some g → w'.heap[g]? = w.heap[g]? := fun g hg => hk g (.inl (h.lab g hg))
  refine ⟨h.rw.kept hn, fun g hg => by rw [hl g (.inl (h.lab g hg))]; exact h.lab g hg, fun i g e => ?_, h.len⟩
  obtain ⟨h1, h2, s, c, h3⟩ := h.at' i g e
  exact ⟨(vc_kept hn i).trans h1, by rw [hl g (.inr ⟨i, h2⟩)]; exact h2, s, c, h3.kept (hk g (.inr ⟨i, h2⟩))⟩

def leafLit : Array Value := #[.int .u32 0, .int .u64 0, .int .u64 0, .int .u64 0, .int .u64 0, .int .u64 0, .int .u64 0, .int .u64 0, .int .u64 0, .int .u64 0, .int .u64 0, .int .u64 0, .int .u64 0, .int .u64 0, .int .u64 0, .int .u64 0, .int .u64 0, .int .u64 0, .int .u64 0, .int .u64 0, .int .u64 0, .int .u64 0, .int .u64 0, .int .u64 0, .int .u64 0, .int .u64 0, .int .u64 0, .int .u64 0, .int .u64 0, .int .u64 0, .int .u64 0, .int .u64 0, .int .u64 0]
theorem zero236 : leafLit = ((#[Value.int .u32 0] : Array Value) ++ Array.replicate 32 (Value.int .u64 0)) := by kernel_rfl

theorem leaf_new (w : World) (t : TypeId) : LF (w.alloc (.cells leafLit t)) w.heap.size 0 (fun _ => 0) := by
  have h := CB.new w leafLit t
  rw [zero236] at h ⊢
  refine ⟨?_, by decide⟩
  have e : (#[Value.int .u32 0] ++ Array.replicate 32 (Value.int .u64 0)).size = 33 := by simp
  rw [e] at h
  refine h.congr (fun i hi => ?_)
  unfold lfc
  by_cases h0 : i = 0
  · subst h0; rfl
  · rw [if_neg h0, Array.getElem?_append_right (by simp; omega), Array.getElem?_replicate, if_pos (by simp; omega)]; rfl

theorem LF.set0 {w : World} {g : Nat} {s : Int} {c : Nat → Int} (h : LF w g s c) : LF (w.setCell ⟨g, 0, none⟩ (.int .u32 0)) g 0 c := by
  refine ⟨(h.cb.set 0 (by omega) _).congr (fun i hi => ?_), by decide⟩
  by_cases e : i = 0
  · subst e; rw [upd_same]; rfl
  · rw [upd_other _ _ e]; simp [lfc, e]

/-- a leaf with nothing set has been taken -/
def TK (p : Nat) (L : Nat → Option Lb) (sp : List Nat) (c : Nat → Value) (w w' : World) (g : Nat) : Prop :=
  ∃ sv' sp' cc, CB w' p 18 (upd c 13 sv') ∧ SPR w' L sv' sp' ∧ LF w' g 0 cc ∧ Tn (fun k => k = p ∨ k = g) w w' ∧ ((g = w.heap.size ∧ sp' = sp) ∨ (∃ i, L g = some (.sp i) ∧ sp = sp' ++ [g] ∧ i = sp'.length))

section
variable {p : Nat} {L : Nat → Option Lb} {sv : Value} {sp : List Nat} {c : Nat → Value} {w : World}

theorem tk_new (hp : CB w p 18 c) (h13 : c 13 = sv) (h : SPR w L sv sp) (hlt : ∀ k, L k ≠ none → k < w.heap.size) (t : TypeId) : TK p L sp c w (w.alloc (.cells leafLit t)) w.heap.size := by
  refine ⟨sv, sp, fun _ => 0, ?_, h.kept (fun k hk => Below.heap_alloc _ _ _ (hlt k (by rcases hk with e | ⟨i, e⟩ <;> (rw [e]; simp)))) (fun _ _ => rfl), leaf_new w t, (Tn.refl _ _).alloc _, .inl ⟨rfl, rfl⟩⟩
  rw [← h13, upd_self]
  exact hp.kept (Below.heap_alloc _ _ _ hp.lt)

theorem tk_old (hp : CB w p 18 c) (h : SPR w L sv sp) (hL : L p = some .own) (hlt : ∀ k, L k ≠ none → k < w.heap.size) (sp' : List Nat) (g : Nat) (e : sp = sp' ++ [g]) (b : Nat) (cap : Nat) (hv : sv = .slice (some ⟨b, 0, none⟩) (sp'.length + 1) cap) :
    TK p L sp c w ((w.setCell ⟨p, 13, none⟩ (.slice (some ⟨b, 0, none⟩) sp'.length cap)).setCell ⟨g, 0, none⟩ (.int .u32 0)) g := by
  obtain ⟨q1, q2, s, cc, q3⟩ := h.at' sp'.length g (by rw [e]; simp)
  have hb := h.lab b (by rw [hv]; rfl)
  have hgp : g ≠ p := by rintro rfl; rw [hL] at q2; cases q2
  have hbp : b ≠ p := by rintro rfl; rw [hL] at hb; cases hb
  have hbg : b ≠ g := by rintro rfl; rw [hb] at q2; cases q2
  have hk : ∀ k, k ≠ p → k ≠ g → ((w.setCell ⟨p, 13, none⟩ (.slice (some ⟨b, 0, none⟩) sp'.length cap)).setCell ⟨g, 0, none⟩ (.int .u32 0)).heap[k]? = w.heap[k]? := fun k h1 h2 => by
    rw [Below.heap_setCell _ _ _ _ h2, Below.heap_setCell _ _ _ _ h1]
  have hkb : ∀ o, ((w.setCell ⟨p, 13, none⟩ (.slice (some ⟨b, 0, none⟩) sp'.length cap)).setCell ⟨g, 0, none⟩ (.int .u32 0)).cell? ⟨b, o, none⟩ = w.cell? ⟨b, o, none⟩ := fun o => World.cell?_of_block (w := w) (hk b hbp hbg)
  refine ⟨_, sp', cc, (hp.set 13 (by omega) _).kept (Below.heap_setCell _ _ _ _ hgp.symm), ⟨?_, fun k hk => ?_, fun i k ei => ?_, ?_⟩, ?_, Tn.set (Tn.set (Tn.refl _ _) _ _ (fun _ => .inl rfl)) _ _ (fun _ => .inr rfl), .inr ⟨_, q2, e, rfl⟩⟩
  · rcases h.rw with ⟨e1, _⟩ | ⟨b', cap', e1, hg, h1, h2, h3⟩
    · rw [hv] at e1; cases e1
    · rw [hv] at e1
      simp only [Value.slice.injEq, Option.some.injEq, Addr.mk.injEq, and_true] at e1
      obtain ⟨rfl, _, rfl⟩ := e1
      rw [e] at h1
      simp at h1
      refine .inr ⟨b, cap, rfl, by simpa using hg, by omega, h2, fun j hj => ?_⟩
      rw [hkb, World.frozen?_setCell, World.frozen?_setCell]
      exact h3 j hj
  · cases hk; exact hb
  · have hi : i < sp'.length := by
      rcases Nat.lt_or_ge i sp'.length with h | h
      · exact h
      · rw [List.getElem?_eq_none h] at ei; cases ei
    obtain ⟨r1, r2, s', c', r3⟩ := h.at' i k (by rw [e, List.getElem?_append_left hi]; exact ei)
    have hkg : k ≠ g := by rintro rfl; rw [q2] at r2; cases r2; omega
    have hkp : k ≠ p := by rintro rfl; rw [hL] at r2; cases r2
    refine ⟨?_, r2, s', c', r3.kept (hk k hkp hkg)⟩
    rw [hv] at r1
    simp only [vc] at r1 ⊢
    rw [hkb]; exact r1
  · have := h.len; rw [e] at this; simp at this; omega
  · exact (q3.kept (Below.heap_setCell _ _ _ _ hgp)).set0

set_option maxHeartbeats 2000000 in
set_option maxRecDepth 100000 in
theorem take_spare (hp : CB w p 18 c) (h13 : c 13 = sv) (h : SPR w L sv sp) (hL : L p = some .own) (hlt : ∀ k, L k ≠ none → k < w.heap.size) :
    Calls Tryz.prog 124 #[.pointer (some ⟨p, 13, none⟩)] w fun e w' => ∃ g, e = .returned (pv (some g)) ∧ TK p L sp c w w' g := by
  have k13 := hp.cell 13 (by omega)
  rw [h13] at k13
  have f13 := hp.froz 13
  have plt := hp.lt
  rcases List.eq_nil_or_concat sp with e | ⟨sp', g, e⟩
  · obtain ⟨a, cap, ev, hlc, hcm, hnil, hsome⟩ := h.rw.form
    have HE := hid (tk_new hp h13 h hlt 236)
    rw [e] at ev
    simp only [List.length_nil] at ev
    rw [ev] at k13
    clear h hp hlt hL hnil hsome hlc hcm
    go_enter Tryz.func124, Tryz.ntmps124
    go_wp2
    go_ret
    exact ⟨_, rfl, HE.out⟩
  · rw [List.concat_eq_append] at e
    subst e
    have hlen : (sp' ++ [g]).length = sp'.length + 1 := by simp
    obtain ⟨b, cap, ev, hg, h1, h2, h3⟩ := h.rw.pos (by omega)
    rw [hlen] at ev h1
    have HE := hid (tk_old hp h hL hlt sp' g rfl b cap ev)
    obtain ⟨q1, q2, s, cc, q3⟩ := h.at' sp'.length g (by simp)
    rw [ev] at q1 k13
    simp only [vc, pv_some] at q1
    have g0 := q3.cb.cell 0 (by omega)
    have gf := q3.cb.froz 0
    have gl := q3.cb.lt
    have hgp : ¬ g = p := by rintro rfl; rw [hL] at q2; cases q2
    have hn1 : ((sp'.length + 1 : Nat) : Int) - 1 = (sp'.length : Int) := by omega
    have hll := h.len
    clear h hp hlt hL q3 h3
    have hn2 : sp'.length ≤ 1024 := by omega
    clear hll hlen ev
    go_enter Tryz.func124, Tryz.ntmps124
    go_wp2

    go_ret
    exact ⟨_, rfl, HE.out⟩
end
end Go.Proofs.YtoidddfpekbliaaGreat
namespace Go.Proofs.YtoidddfpekbliaaGreat
set_option linter.unusedSimpArgs false
set_option linter.unusedVariables false
open Go.RowKit
attribute [local go_sem ↓] Go.wp_at_zero Go.wp_at_succ

/-- labels of one bank's blocks -/
def Lb.isBank (j : Nat) (r : Bool) : Lb → Prop
  | .lf j' r' _ => j' = j ∧ r' = r
  | .nr j' r' => j' = j ∧ r' = r
  | .fm j' r' => j' = j ∧ r' = r
  | _ => False

theorem tb_zero (i : Nat) : tb 0 i = false := by
  unfold tb
  rw [Int.zero_ediv]
  decide

/-- a bank's three cells -/
def bcs (fc : Nat → Value) (o : Nat) (first near mo : Option Nat) (i : Nat) : Value := if i = o then pv first else if i = o + 1 then pv near else if i = o + 2 then .map mo else fc i

def nearL : List Value := [Value.pointer none, Value.pointer none, Value.pointer none, Value.pointer none, Value.pointer none, Value.pointer none, Value.pointer none, Value.pointer none, Value.pointer none, Value.pointer none, Value.pointer none, Value.pointer none, Value.pointer none, Value.pointer none, Value.pointer none, Value.pointer none, Value.pointer none, Value.pointer none, Value.pointer none, Value.pointer none, Value.pointer none, Value.pointer none, Value.pointer none, Value.pointer none, Value.pointer none, Value.pointer none, Value.pointer none, Value.pointer none, Value.pointer none, Value.pointer none, Value.pointer none, Value.pointer none, Value.pointer none, Value.pointer none, Value.pointer none, Value.pointer none, Value.pointer none, Value.pointer none, Value.pointer none, Value.pointer none, Value.pointer none, Value.pointer none, Value.pointer none, Value.pointer none, Value.pointer none, Value.pointer none, Value.pointer none, Value.pointer none, Value.pointer none, Value.pointer none, Value.pointer none, Value.pointer none, Value.pointer none, Value.pointer none, Value.pointer none, Value.pointer none, Value.pointer none, Value.pointer none, Value.pointer none, Value.pointer none, Value.pointer none, Value.pointer none, Value.pointer none, Value.pointer none]
theorem nearL_eq : nearL = List.replicate 64 (Value.pointer none) := rfl
theorem near_lit {n : Nat} (h : n < 64) : ([Value.pointer none, Value.pointer none, Value.pointer none, Value.pointer none, Value.pointer none, Value.pointer none, Value.pointer none, Value.pointer none, Value.pointer none, Value.pointer none, Value.pointer none, Value.pointer none, Value.pointer none, Value.pointer none, Value.pointer none, Value.pointer none, Value.pointer none, Value.pointer none, Value.pointer none, Value.pointer none, Value.pointer none, Value.pointer none, Value.pointer none, Value.pointer none, Value.pointer none, Value.pointer none, Value.pointer none, Value.pointer none, Value.pointer none, Value.pointer none, Value.pointer none, Value.pointer none, Value.pointer none, Value.pointer none, Value.pointer none, Value.pointer none, Value.pointer none, Value.pointer none, Value.pointer none, Value.pointer none, Value.pointer none, Value.pointer none, Value.pointer none, Value.pointer none, Value.pointer none, Value.pointer none, Value.pointer none, Value.pointer none, Value.pointer none, Value.pointer none, Value.pointer none, Value.pointer none, Value.pointer none, Value.pointer none, Value.pointer none, Value.pointer none, Value.pointer none, Value.pointer none, Value.pointer none, Value.pointer none, Value.pointer none, Value.pointer none, Value.pointer none, Value.pointer none] : List Value)[n]? = some (.pointer none) := by
  show (List.replicate 64 (Value.pointer none))[n]? = _
  rw [List.getElem?_replicate, if_pos h]

section
variable {b o K : Nat} {L L' : Nat → Option Lb} {j : Nat} {r : Bool} {N : Nat} {first near mo : Option Nat} {lvs : Nat → Option Nat} {B : Nat → Option Int} {w w' : World} {n g : Nat} {cc : Nat → Int} {fc : Nat → Value}

theorem bk_add {N' : Nat} {first' near' mo' : Option Nat} (h : BK w L j r N first near mo lvs B) (hno : lvs n = none) (hg : L g = some (.lf j r n)) (hlf : LF w' g 0 cc) (hk : ∀ k m, L k = some (.lf j r m) → w'.heap[k]? = w.heap[k]?)
    (hlab : ∀ k l, L k = some l → L' k = some l) (hf0 : upd lvs n (some g) 0 = first') (hnr : ∀ g', near' = some g' → L' g' = some (.nr j r) ∧ CB w' g' 64 (fun i => pv (if i = 0 then none else upd lvs n (some g) i)))
    (hnn : near' = none → ∀ i, 1 ≤ i → i < 64 → upd lvs n (some g) i = none) (hfar : MP 184 w' mo' N' (fun k => if k < 64 then none else upd lvs n (some g) k)) (hlabf : ∀ b, mo' = some b → L' b = some (.fm j r)) :
    BK w' L' j r N' first' near' mo' (upd lvs n (some g)) B := by
  refine ⟨hf0, hnr, hnn, hfar, hlabf, fun m k e => ?_, fun m e i hi => ?_, h.rg⟩
  · by_cases e' : m = n
    · subst e'
      rw [upd_same] at e; cases e
      exact ⟨hlab _ _ hg, 0, cc, hlf, fun i hi => by rw [h.no m hno i hi, tb_zero]; rfl⟩
    · rw [upd_other _ _ e'] at e
      obtain ⟨q1, s, c, q2, q3⟩ := h.lf m k e
      exact ⟨hlab _ _ q1, s, c, q2.kept (hk k m q1), q3⟩
  · by_cases e' : m = n
    · subst e'; rw [upd_same] at e; cases e
    · rw [upd_other _ _ e'] at e; exact h.no m e i hi

/-- what is left behind an add -/
def AD (b o K : Nat) (L : Nat → Option Lb) (j : Nat) (r : Bool) (N : Nat) (lvs : Nat → Option Nat) (B : Nat → Option Int) (fc : Nat → Value) (w w' : World) : Prop :=
  ∃ L' first' near' mo', BK w' L' j r N first' near' mo' lvs B ∧ CB w' b K (bcs fc o first' near' mo') ∧ Lq (fun k => k = b) (Lb.isBank j r) w L w' L'

theorem bcs_first (hc : ∀ i, fc i = bcs fc o first near mo i) (x : Option Nat) : ∀ i, upd fc o (pv x) i = bcs fc o x near mo i := by
  intro i
  by_cases e : i = o
  · subst e; rw [upd_same]; simp [bcs]
  · rw [upd_other _ _ e, hc i]; simp [bcs, e]
theorem bcs_near (hc : ∀ i, fc i = bcs fc o first near mo i) (x : Option Nat) : ∀ i, upd fc (o + 1) (pv x) i = bcs fc o first x mo i := by
  intro i
  by_cases e : i = o + 1
  · subst e; rw [upd_same]; simp [bcs]
  · rw [upd_other _ _ e, hc i]; simp [bcs, e]
theorem bcs_far (hc : ∀ i, fc i = bcs fc o first near mo i) (x : Option Nat) : ∀ i, upd fc (o + 2) (.map x) i = bcs fc o first near x i := by
  intro i
  by_cases e : i = o + 2
  · subst e; rw [upd_same]; simp [bcs]
  · rw [upd_other _ _ e, hc i]; simp [bcs, e]
theorem bcs_of (h0 : fc o = pv first) (h1 : fc (o + 1) = pv near) (h2 : fc (o + 2) = .map mo) : ∀ i, fc i = bcs fc o first near mo i := by
  intro i
  unfold bcs
  split
  · rename_i e; rw [e, h0]
  · split
    · rename_i e; rw [e, h1]
    · split
      · rename_i e; rw [e, h2]
      · rfl

/-- only b has turned, and no label -/
theorem lq_one (hlt : ∀ k, L k ≠ none → k < w.heap.size) (t : Tn (fun k => k = b ∨ ∃ l, L k = some l ∧ Lb.isBank j r l) w w') : Lq (fun k => k = b) (Lb.isBank j r) w L w' L :=
  ⟨t, fun _ _ e _ => e, fun k l e => ⟨Nat.lt_of_lt_of_le (hlt k (by rw [e]; simp)) t.size, .inr e⟩, fun _ _ e => e⟩
/-- a new block gets a label -/
theorem lq_new (hlt : ∀ k, L k ≠ none → k < w.heap.size) (t : Tn (fun k => k = b ∨ ∃ l, L k = some l ∧ Lb.isBank j r l) w w') (l : Lb) (hl : Lb.isBank j r l) (hs : w.heap.size < w'.heap.size) : Lq (fun k => k = b) (Lb.isBank j r) w L w' (upd L w.heap.size (some l)) := by
  refine ⟨t, fun k x e _ => ?_, fun k x e => ?_, fun k hk e => ?_⟩
  · rw [upd_other _ _ (by have := hlt k (by rw [e]; simp); omega)]; exact e
  · by_cases e' : k = w.heap.size
    · subst e'; rw [upd_same] at e; cases e; exact ⟨hs, .inl hl⟩
    · rw [upd_other _ _ e'] at e
      exact ⟨Nat.lt_of_lt_of_le (hlt k (by rw [e]; simp)) t.size, .inr e⟩
  · rw [upd_other _ _ (by omega)]; exact e

theorem ad_first (h : BK w L j r N first near mo lvs B) (hno : lvs 0 = none) (hg : L g = some (.lf j r 0)) (hlf : LF w g 0 cc) (hcb : CB w b K fc) (hc : ∀ i, fc i = bcs fc o first near mo i) (ho : o + 2 < K) (hb : L b = some .row) (hlt : ∀ k, L k ≠ none → k < w.heap.size) :
    AD b o K L j r (N + 1) (upd lvs 0 (some g)) B fc w (w.setCell ⟨b, o, none⟩ (pv (some g))) := by
  have hk : ∀ k l, L k = some l → l ≠ .row → (w.setCell ⟨b, o, none⟩ (pv (some g))).heap[k]? = w.heap[k]? := fun k l e hne => Below.heap_setCell _ _ _ _ (by intro e'; simp only at e'; subst e'; rw [hb] at e; cases e; exact hne rfl)
  refine ⟨L, some g, near, mo, ?_, (hcb.set o (by omega) _).congr (fun i _ => bcs_first hc _ i), lq_one hlt (Tn.set (Tn.refl _ _) _ _ (fun _ => .inl rfl))⟩
  refine bk_add h hno hg (hlf.kept (hk g _ hg (by simp))) (fun k m e => hk k _ e (by simp)) (fun _ _ e => e) (upd_same _ _ _) (fun g' e => ?_) (fun e i h1 h2 => by rw [upd_other _ _ (by omega)]; exact h.nn e i h1 h2) ?_ h.labf
  · obtain ⟨q1, q2⟩ := h.nr g' e
    refine ⟨q1, (q2.kept (hk g' _ q1 (by simp))).congr (fun i hi => ?_)⟩
    by_cases e : i = 0
    · simp [e]
    · rw [upd_other _ _ e]
  · refine mp_mono ((h.far.kept (fun b' hb' => hk b' _ (h.labf b' hb') (by simp))).congr (fun k => ?_)) (Nat.le_succ N)
    by_cases e : k = 0
    · subst e; simp
    · rw [upd_other _ _ e]


theorem ad_near {g1 : Nat} (h : BK w L j r N first (some g1) mo lvs B) (h0 : 1 ≤ n) (hn : n < 64) (hno : lvs n = none) (hg : L g = some (.lf j r n)) (hlf : LF w g 0 cc) (hcb : CB w b K fc) (hc : ∀ i, fc i = bcs fc o first (some g1) mo i) (hb : L b = some .row) (hlt : ∀ k, L k ≠ none → k < w.heap.size) :
    AD b o K L j r (N + 1) (upd lvs n (some g)) B fc w (w.setCell ⟨g1, n, none⟩ (pv (some g))) := by
  obtain ⟨q1, q2⟩ := h.nr g1 rfl
  have hk : ∀ k l, L k = some l → (∀ j r, l ≠ .nr j r) → (w.setCell ⟨g1, n, none⟩ (pv (some g))).heap[k]? = w.heap[k]? := fun k l e hne => Below.heap_setCell _ _ _ _ (by intro e'; simp only at e'; subst e'; rw [q1] at e; cases e; exact hne _ _ rfl)
  refine ⟨L, first, some g1, mo, ?_, (hcb.kept (hk b _ hb (by simp))).congr (fun i _ => hc i), lq_one hlt (Tn.set (Tn.refl _ _) _ _ (fun _ => .inr ⟨_, q1, rfl, rfl⟩))⟩
  refine bk_add h hno hg (hlf.kept (hk g _ hg (by simp))) (fun k m e => hk k _ e (by simp)) (fun _ _ e => e) (by rw [upd_other _ _ (by omega)]; exact h.f0) (fun g' e => ?_) (fun e => by cases e) ?_ h.labf
  · cases e
    refine ⟨q1, (q2.set n hn _).congr (fun i hi => ?_)⟩
    by_cases e : i = n
    · subst e; rw [upd_same, upd_same, if_neg (by omega)]
    · rw [upd_other _ _ e, upd_other _ _ e]
  · refine mp_mono ((h.far.kept (fun b' hb' => hk b' _ (h.labf b' hb') (by simp))).congr (fun k => ?_)) (Nat.le_succ N)
    by_cases e : k = n
    · subst e; simp [hn]
    · rw [upd_other _ _ e]

theorem ad_nearNew (h : BK w L j r N first none mo lvs B) (h0 : 1 ≤ n) (hn : n < 64) (hno : lvs n = none) (hg : L g = some (.lf j r n)) (hlf : LF w g 0 cc) (hcb : CB w b K fc) (hc : ∀ i, fc i = bcs fc o first none mo i) (ho : o + 2 < K) (hb : L b = some .row) (hlt : ∀ k, L k ≠ none → k < w.heap.size) (t : TypeId) :
    AD b o K L j r (N + 1) (upd lvs n (some g)) B fc w ((w.setCell ⟨b, o + 1, none⟩ (pv (some w.heap.size))).alloc (.cells (nearL.set n (pv (some g))).toArray t)) := by
  have hsz : (w.setCell ⟨b, o + 1, none⟩ (pv (some w.heap.size))).heap.size = w.heap.size := by simp
  have hal : ∀ k, k < w.heap.size → ((w.setCell ⟨b, o + 1, none⟩ (pv (some w.heap.size))).alloc (.cells (nearL.set n (pv (some g))).toArray t)).heap[k]? = (w.setCell ⟨b, o + 1, none⟩ (pv (some w.heap.size))).heap[k]? := fun k hk => Below.heap_alloc _ _ _ (by rw [hsz]; exact hk)
  have hk : ∀ k l, L k = some l → l ≠ .row → ((w.setCell ⟨b, o + 1, none⟩ (pv (some w.heap.size))).alloc (.cells (nearL.set n (pv (some g))).toArray t)).heap[k]? = w.heap[k]? := fun k l e hne => by
    rw [hal k (hlt k (by rw [e]; simp))]
    exact Below.heap_setCell _ _ _ _ (by intro e'; simp only at e'; subst e'; rw [hb] at e; cases e; exact hne rfl)
  have hLn : L w.heap.size = none := labNone hlt (Nat.le_refl _)
  have up : ∀ k l, L k = some l → upd L w.heap.size (some (.nr j r)) k = some l := fun k l e => by
    rw [upd_other _ _ (by rintro rfl; rw [hLn] at e; cases e)]; exact e
  have tn : Tn (fun k => k = b ∨ ∃ l, L k = some l ∧ Lb.isBank j r l) w ((w.setCell ⟨b, o + 1, none⟩ (pv (some w.heap.size))).alloc (.cells (nearL.set n (pv (some g))).toArray t)) := (Tn.set (Tn.refl _ _) _ _ (fun _ => .inl rfl)).alloc _
  refine ⟨upd L w.heap.size (some (.nr j r)), first, some w.heap.size, mo, ?_, ((hcb.set (o + 1) (by omega) _).kept (hal b hcb.lt)).congr (fun i _ => bcs_near hc _ i), lq_new hlt tn _ ⟨rfl, rfl⟩ (by simp)⟩
  refine bk_add h hno hg (hlf.kept (hk g _ hg (by simp))) (fun k m e => hk k _ e (by simp)) up (by rw [upd_other _ _ (by omega)]; exact h.f0) (fun g' e => ?_) (fun e => by cases e) ?_ (fun b' hb' => up _ _ (h.labf b' hb'))
  · cases e
    refine ⟨upd_same _ _ _, ?_⟩
    have hn1 := CB.new (w.setCell ⟨b, o + 1, none⟩ (pv (some w.heap.size))) (nearL.set n (pv (some g))).toArray t
    rw [hsz] at hn1
    have e64 : (nearL.set n (pv (some g))).toArray.size = 64 := by simp [nearL_eq]
    rw [e64] at hn1
    refine hn1.congr (fun i hi => ?_)
    simp only [List.getElem?_toArray]
    by_cases e : i = n
    · subst e
      rw [List.getElem?_set_self (by simp [nearL_eq]; omega), if_neg (by omega), upd_same]; rfl
    · rw [List.getElem?_set_ne (by omega), nearL_eq, List.getElem?_replicate, if_pos hi, upd_other _ _ e]
      by_cases e0 : i = 0
      · rw [if_pos e0]; rfl
      · rw [if_neg e0, h.nn rfl i (by omega) hi]; rfl
  · refine mp_mono ((h.far.kept (fun b' hb' => hk b' _ (h.labf b' hb') (by simp))).congr (fun k => ?_)) (Nat.le_succ N)
    by_cases e : k = n
    · subst e; simp [hn]
    · rw [upd_other _ _ e]

theorem ad_farOld {b1 : Nat} (h : BK w L j r N first near (some b1) lvs B) (hn : 64 ≤ n) (hno : lvs n = none) (hg : L g = some (.lf j r n)) (hlf : LF w g 0 cc) (hcb : CB w b K fc) (hc : ∀ i, fc i = bcs fc o first near (some b1) i) (hb : L b = some .row) (hlt : ∀ k, L k ≠ none → k < w.heap.size)
    (hmp : MP 184 w' (some b1) (N + 1) (upd (fun n => if n < 64 then none else lvs n) n (some g))) (hgr : w.grownBy w' (some b1)) :
    AD b o K L j r (N + 1) (upd lvs n (some g)) B fc w w' := by
  have q1 := h.labf b1 rfl
  have hk : ∀ k l, L k = some l → (∀ j r, l ≠ .fm j r) → w'.heap[k]? = w.heap[k]? := fun k l e hne => hgr.block k (hlt k (by rw [e]; simp)) (by rintro ⟨⟩; rw [q1] at e; cases e; exact hne _ _ rfl)
  refine ⟨L, first, near, some b1, ?_, (hcb.kept (hk b _ hb (by simp))).congr (fun i _ => hc i), lq_one hlt ((Tn.of_grown hgr).mono (fun i _ e => by cases e; exact .inr ⟨_, q1, rfl, rfl⟩))⟩
  refine bk_add h hno hg (hlf.kept (hk g _ hg (by simp))) (fun k m e => hk k _ e (by simp)) (fun _ _ e => e) (by rw [upd_other _ _ (by omega)]; exact h.f0) (fun g' e => ?_) (fun e i h1 h2 => by rw [upd_other _ _ (by omega)]; exact h.nn e i h1 h2) ?_ h.labf
  · obtain ⟨q1, q2⟩ := h.nr g' e
    refine ⟨q1, (q2.kept (hk g' _ q1 (by simp))).congr (fun i hi => ?_)⟩
    rw [upd_other _ _ (by omega)]
  · refine hmp.congr (fun k => ?_)
    by_cases e : k = n
    · subst e; rw [upd_same, upd_same, if_neg (by omega)]
    · rw [upd_other _ _ e, upd_other _ _ e]

theorem ad_farNew (h : BK w L j r N first near none lvs B) (hn : 64 ≤ n) (hno : lvs n = none) (hg : L g = some (.lf j r n)) (hlf : LF w g 0 cc) (hcb : CB w b K fc) (hc : ∀ i, fc i = bcs fc o first near none i) (ho : o + 2 < K) (hb : L b = some .row) (hlt : ∀ k, L k ≠ none → k < w.heap.size)
    (hmp : MP 184 w' (some w.heap.size) (N + 1) (upd (fun _ => none) n (some g))) (hgr : (w.alloc (.map #[] 0)).grownBy w' (some w.heap.size)) :
    AD b o K L j r (N + 1) (upd lvs n (some g)) B fc w (w'.setCell ⟨b, o + 2, none⟩ (.map (some w.heap.size))) := by
  have hsz : (w.alloc (.map #[] 0)).heap.size = w.heap.size + 1 := by simp
  have hs := hgr.size
  rw [hsz] at hs
  have hal : ∀ k, k < w.heap.size → w'.heap[k]? = w.heap[k]? := fun k hk => by
    rw [hgr.block k (by rw [hsz]; omega) (by intro e; injection e; omega)]
    exact Below.heap_alloc _ _ _ hk
  have hst : ∀ k, k ≠ b → (w'.setCell ⟨b, o + 2, none⟩ (.map (some w.heap.size))).heap[k]? = w'.heap[k]? := fun k hk => Below.heap_setCell _ _ _ _ hk
  have hk : ∀ k l, L k = some l → l ≠ .row → (w'.setCell ⟨b, o + 2, none⟩ (.map (some w.heap.size))).heap[k]? = w.heap[k]? := fun k l e hne => by
    rw [hst k (by rintro rfl; rw [hb] at e; cases e; exact hne rfl)]
    exact hal k (hlt k (by rw [e]; simp))
  have hLn : L w.heap.size = none := labNone hlt (Nat.le_refl _)
  have up : ∀ k l, L k = some l → upd L w.heap.size (some (.fm j r)) k = some l := fun k l e => by
    rw [upd_other _ _ (by rintro rfl; rw [hLn] at e; cases e)]; exact e
  have hblt := hcb.lt
  have tn : Tn (fun k => k = b ∨ ∃ l, L k = some l ∧ Lb.isBank j r l) w (w'.setCell ⟨b, o + 2, none⟩ (.map (some w.heap.size))) :=
    ⟨hgr.os, hgr.tape, hgr.output, by simp; omega, fun k hk' hne => (hst k (fun e => hne (.inl e))).trans (hal k hk')⟩
  have hfn : ∀ k, (fun n => if n < 64 then none else lvs n) k = none := by
    rcases h.far with ⟨_, q⟩ | ⟨b, _, _, q, _⟩
    · exact q
    · cases q
  refine ⟨upd L w.heap.size (some (.fm j r)), first, near, some w.heap.size, ?_, ((hcb.kept (hal b hblt)).set (o + 2) (by omega) _).congr (fun i _ => bcs_far hc _ i), lq_new hlt tn _ ⟨rfl, rfl⟩ (by simp; omega)⟩
  refine bk_add h hno hg (hlf.kept (hk g _ hg (by simp))) (fun k m e => hk k _ e (by simp)) up (by rw [upd_other _ _ (by omega)]; exact h.f0) (fun g' e => ?_) (fun e i h1 h2 => by rw [upd_other _ _ (by omega)]; exact h.nn e i h1 h2) ?_ (fun b' hb' => by cases hb'; exact upd_same _ _ _)
  · obtain ⟨q1, q2⟩ := h.nr g' e
    refine ⟨up _ _ q1, (q2.kept (hk g' _ q1 (by simp))).congr (fun i hi => ?_)⟩
    rw [upd_other _ _ (by omega)]
  · refine (hmp.kept (fun b' hb' => by cases hb'; exact hst _ (by omega))).congr (fun k => ?_)
    by_cases e : k = n
    · subst e; rw [upd_same, upd_same, if_neg (by omega)]
    · rw [upd_other _ _ e, upd_other _ _ e]; exact (hfn k).symm

theorem leql (b : Nat) (w : World) : (binOp .eql 165 (.map (some b)) (.map none)).run Tryz.prog w = .ok (.bool false) w := by kernel_rfl
theorem leqlNil (w : World) : (binOp .eql 165 (.map none) (.map none)).run Tryz.prog w = .ok (.bool true) w := by kernel_rfl

set_option maxHeartbeats 4000000 in
set_option maxRecDepth 100000 in
theorem badd_raw (h : BK w L j r N first near mo lvs B) (hno : lvs n = none) (hg : L g = some (.lf j r n)) (hlf : LF w g 0 cc) (hcb : CB w b K fc) (hc : ∀ i, fc i = bcs fc o first near mo i) (ho : o + 2 < K) (hb : L b = some .row) (hlt : ∀ k, L k ≠ none → k < w.heap.size)
    (hN : N < 4611686018427387904) (hn : n < 18446744073709551616) :
    Calls Tryz.prog 123 #[.pointer (some ⟨b, o, none⟩), .int .u64 (n : Int), .pointer (some ⟨g, 0, none⟩)] w fun e w' => e = .returned (.pointer (some ⟨g, 0, none⟩)) ∧ AD b o K L j r (N + 1) (upd lvs n (some g)) B fc w w' := by
  have c0 := hcb.cell o (by omega)
  have c1 := hcb.cell (o + 1) (by omega)
  have c2 := hcb.cell (o + 2) ho
  rw [hc] at c0 c1 c2
  simp only [bcs, if_true, show ¬ (o + 1 = o) by omega, show ¬ (o + 2 = o) by omega, show ¬ (o + 2 = o + 1) by omega, if_false] at c0 c1 c2
  have f0 := hcb.froz o
  have f1 := hcb.froz (o + 1)
  have f2 := hcb.froz (o + 2)
  have blt := hcb.lt
  have qe1 := leql
  have qe2 := leqlNil
  by_cases h0 : n = 0
  · subst h0
    have HE := hid (ad_first h hno hg hlf hcb hc ho hb hlt)
    clear h hlf hcb hc hlt
    go_enter Tryz.func123, Tryz.ntmps123
    go_wp2
    go_ret
    exact ⟨rfl, HE.out⟩
  · have hn0 : ((n : Int) == 0) = false := by simp; omega
    by_cases hl : n < 64
    · have hl2 : (n : Int) < 64 := by omega
      cases near with
      | none =>
        have HE := hid (ad_nearNew h (by omega) hl hno hg hlf hcb hc ho hb hlt 260)
        have hA := near_lit hl
        rw [pv_none] at c1
        clear h hlf hcb hc hlt hn
        go_enter Tryz.func123, Tryz.ntmps123
        go_wp2
        go_ret
        exact ⟨rfl, HE.out⟩
      | some g1 =>
        have HE := hid (ad_near (o := o) h (by omega) hl hno hg hlf hcb hc hb hlt)
        obtain ⟨q1, q2⟩ := h.nr g1 rfl
        have k1 := q2.cell n hl
        have k2 := q2.froz n
        have k3 := q2.lt
        rw [pv_some] at c1
        clear h hlf hcb hc hlt hn q2
        go_enter Tryz.func123, Tryz.ntmps123
        go_wp2
        go_ret
        exact ⟨rfl, HE.out⟩
    · have hl2 : 64 ≤ (n : Int) := by omega
      cases mo with
      | some b1 =>
        obtain ⟨w', hr, hmp, hgr⟩ := mp_store h.far (by unfold maxLen; omega) Tryz.underlying184 Tryz.underlying165 n hn g
        have HE := hid (ad_farOld (o := o) h (by omega) hno hg hlf hcb hc hb hlt hmp hgr)
        rw [pv_some] at hr
        have HR := hid hr
        clear h hlf hcb hc hlt hn hr hmp hgr
        go_enter Tryz.func123, Tryz.ntmps123
        go_wp2_with (at_mapUpdate; refine wpList_putw _ rfl _ _ _ rfl _ rfl _ rfl _ rfl w' HR.out ?_)
        go_ret
        exact ⟨rfl, HE.out⟩
      | none =>
        obtain ⟨w', hr, hmp, hgr⟩ := mp_store (mp_made 184 w N) (by unfold maxLen; omega) Tryz.underlying184 Tryz.underlying165 n hn g
        have HE := hid (ad_farNew h (by omega) hno hg hlf hcb hc ho hb hlt hmp hgr)
        have hkb : w'.heap[b]? = w.heap[b]? := by
          rw [hgr.block b (by simp; omega) (by intro e; injection e; omega)]
          exact Below.heap_alloc _ _ _ blt
        have hcb2 := hcb.kept hkb
        have d2 := hcb2.cell (o + 2) ho
        have e2 := hcb2.froz (o + 2)
        have l2 := hcb2.lt
        rw [pv_some] at hr
        have HR := hid hr
        have hmm := @run_makeMap Tryz.prog
        clear h hlf hcb hc hlt hn hr hmp hgr hkb hcb2
        go_enter Tryz.func123, Tryz.ntmps123
        go_wp2_with (refine wpList_insw (tm := 165) _ rfl (.tmp 33) (.tmp 34) (.tmp 35) rfl (some w.heap.size) rfl (.int .u64 (n : Int)) rfl (.pointer (some ⟨g, 0, none⟩)) rfl w' HR.out ?_)
        go_ret
        exact ⟨rfl, HE.out⟩
end
end Go.Proofs.YtoidddfpekbliaaGreat
namespace Go.Proofs.YtoidddfpekbliaaGreat
set_option linter.unusedSimpArgs false
set_option linter.unusedVariables false
open Go.RowKit
attribute [local go_sem ↓] Go.wp_at_zero Go.wp_at_succ

theorem tb_eq {s : Int} (h : 0 ≤ s ∧ s ≤ 4294967295) (i : Nat) : tb s i = s.toNat.testBit i := by
  obtain ⟨n, rfl⟩ : ∃ n : Nat, s = n := ⟨s.toNat, by omega⟩
  have e1 : ((n : Int) / 2 ^ i) = ((n / 2 ^ i : Nat) : Int) := by simp
  have hlt : n / 2 ^ i < 4294967296 := Nat.lt_of_le_of_lt (Nat.div_le_self _ _) (by omega)
  unfold tb
  have e2 : bits .and .u32 ((n / 2 ^ i : Nat) : Int) 1 = ((n / 2 ^ i &&& 1 : Nat) : Int) := u32_and_nat _ 1 hlt (by decide)
  rw [e1, e2, nat_mask1, Int.toNat_natCast, Nat.testBit_eq_decide_div_mod_eq]
  have : n / 2 ^ i % 2 = 0 ∨ n / 2 ^ i % 2 = 1 := by omega
  rcases this with e | e <;> rw [e] <;> decide

theorem tb_or {s : Int} (h : 0 ≤ s ∧ s ≤ 4294967295) (k i : Nat) (hk : k < 32) : tb (bits .or .u32 s (2 ^ k)) i = (decide (i = k) || tb s i) ∧ (0 ≤ bits .or .u32 s (2 ^ k) ∧ bits .or .u32 s (2 ^ k) ≤ 4294967295) := by
  obtain ⟨n, rfl⟩ : ∃ n : Nat, s = n := ⟨s.toNat, by omega⟩
  have h2 : 2 ^ k < 4294967296 := by
    have : 2 ^ k ≤ 2 ^ 31 := Nat.pow_le_pow_right (by decide) (by omega)
    omega
  have e1 : ((2 : Int) ^ k) = ((2 ^ k : Nat) : Int) := by simp
  have hw : 0 ≤ bits .or .u32 (n : Int) (2 ^ k) ∧ bits .or .u32 (n : Int) (2 ^ k) ≤ 4294967295 := bounds_u32 (wf_bits .or .u32 _ _)
  refine ⟨?_, hw⟩
  rw [tb_eq hw, tb_eq h, e1, u32_or_nat n (2 ^ k) (by omega) h2, Int.toNat_natCast, Int.toNat_natCast, Nat.testBit_or, Nat.testBit_two_pow, Bool.or_comm]
  congr 1
  exact decide_eq_decide.2 ⟨fun e => e.symm, fun e => e.symm⟩

/-- labels that a put may touch -/
def Lb.isPut (j : Nat) (r : Bool) (l : Lb) : Prop := l.isBank j r ∨ l = .spr ∨ ∃ i, l = .sp i

section
variable {p b o K : Nat} {L : Nat → Option Lb} {j : Nat} {r : Bool} {N : Nat} {first near mo : Option Nat} {lvs : Nat → Option Nat} {B : Nat → Option Int} {w : World} {fc c : Nat → Value} {sv : Value} {sp : List Nat}

/-- what is left behind a put -/
def PT (p b o K : Nat) (L : Nat → Option Lb) (j : Nat) (r : Bool) (N : Nat) (B : Nat → Option Int) (fc c : Nat → Value) (w w' : World) : Prop :=
  ∃ L' first' near' mo' lvs' sv' sp', BK w' L' j r N first' near' mo' lvs' B ∧ CB w' b K (bcs fc o first' near' mo') ∧ SPR w' L' sv' sp' ∧ CB w' p 18 (upd c 13 sv') ∧ Lq (fun k => k = p ∨ k = b) (Lb.isPut j r) w L w' L'

theorem LF.put {g : Nat} {s : Int} {cv : Nat → Int} (h : LF w g s cv) (k : Nat) (hk : k < 32) (x : Int) : LF ((w.setCell ⟨g, 0, none⟩ (.int .u32 (bits .or .u32 s (2 ^ k)))).setCell ⟨g, 1 + k, none⟩ (.int .u64 x)) g (bits .or .u32 s (2 ^ k)) (upd cv k x) := by
  refine ⟨((h.cb.set 0 (by omega) _).set (1 + k) (by omega) _).congr (fun i hi => ?_), (tb_or h.rs k 0 hk).2⟩
  unfold lfc
  by_cases e : i = 1 + k
  · subst e; rw [upd_same, if_neg (by omega), show 1 + k - 1 = k by omega, upd_same]
  · rw [upd_other _ _ e]
    by_cases e0 : i = 0
    · subst e0; rw [upd_same, if_pos rfl]
    · rw [upd_other _ _ e0, if_neg e0, if_neg e0, upd_other _ _ (by omega)]

theorem bk_put {g : Nat} {s : Int} {cv : Nat → Int} (h : BK w L j r N first near mo lvs B) (i : Nat) (hg : lvs (i / 32) = some g) (hlf : LF w g s cv) (hB : ∀ q, q < 32 → B (32 * (i / 32) + q) = if tb s q then some (cv q) else none) (x : Int) (hx : 0 ≤ x ∧ x ≤ 18446744073709551615) :
    BK ((w.setCell ⟨g, 0, none⟩ (.int .u32 (bits .or .u32 s (2 ^ (i % 32))))).setCell ⟨g, 1 + i % 32, none⟩ (.int .u64 x)) L j r N first near mo lvs (upd B i (some x)) := by
  have hgl := (h.lf _ g hg).1
  have hk : ∀ k l, L k = some l → l ≠ .lf j r (i / 32) → ((w.setCell ⟨g, 0, none⟩ (.int .u32 (bits .or .u32 s (2 ^ (i % 32))))).setCell ⟨g, 1 + i % 32, none⟩ (.int .u64 x)).heap[k]? = w.heap[k]? := fun k l e hne => by
    have : k ≠ g := by rintro rfl; rw [hgl] at e; cases e; exact hne rfl
    rw [Below.heap_setCell _ _ _ _ this, Below.heap_setCell _ _ _ _ this]
  refine ⟨h.f0, fun g' e => ⟨(h.nr g' e).1, (h.nr g' e).2.kept (hk g' _ (h.nr g' e).1 (by simp))⟩, h.nn, h.far.kept (fun b' e => hk b' _ (h.labf b' e) (by simp)), h.labf, fun n k e => ?_, fun n e q hq => ?_, fun q v e => ?_⟩
  · by_cases e' : n = i / 32
    · subst e'
      rw [hg] at e; cases e
      refine ⟨hgl, _, _, hlf.put (i % 32) (by omega) x, fun q hq => ?_⟩
      rw [(tb_or hlf.rs (i % 32) q (by omega)).1]
      by_cases eq : q = i % 32
      · subst eq
        rw [show 32 * (i / 32) + i % 32 = i by omega, upd_same, upd_same]; simp
      · rw [upd_other _ _ (by omega), upd_other _ _ eq, hB q hq]; simp [eq]
    · obtain ⟨q1, s', c', q2, q3⟩ := h.lf n k e
      refine ⟨q1, s', c', q2.kept (hk k _ q1 (by intro e; cases e; exact e' rfl)), fun q hq => ?_⟩
      rw [upd_other _ _ (by omega)]; exact q3 q hq
  · rw [upd_other _ _ (by rintro rfl; rw [show (32 * n + q) / 32 = n by omega, e] at hg; cases hg)]
    exact h.no n e q hq
  · by_cases e' : q = i
    · subst e'; rw [upd_same] at e; cases e; exact hx
    · rw [upd_other _ _ e'] at e; exact h.rg q v e

theorem pt_old {g : Nat} {s : Int} {cv : Nat → Int} (h : BK w L j r N first near mo lvs B) (i : Nat) (hg : lvs (i / 32) = some g) (hlf : LF w g s cv) (hB : ∀ q, q < 32 → B (32 * (i / 32) + q) = if tb s q then some (cv q) else none) (x : Int) (hx : 0 ≤ x ∧ x ≤ 18446744073709551615)
    (hcb : CB w b K fc) (hc : ∀ i, fc i = bcs fc o first near mo i) (hs : SPR w L sv sp) (hp : CB w p 18 c) (h13 : c 13 = sv) (hLb : L b = some .row) (hLp : L p = some .own) (hlt : ∀ k, L k ≠ none → k < w.heap.size) :
    PT p b o K L j r N (upd B i (some x)) fc c w ((w.setCell ⟨g, 0, none⟩ (.int .u32 (bits .or .u32 s (2 ^ (i % 32))))).setCell ⟨g, 1 + i % 32, none⟩ (.int .u64 x)) := by
  have hgl := (h.lf _ g hg).1
  have hk : ∀ k l, L k = some l → (∀ j r n, l ≠ .lf j r n) → ((w.setCell ⟨g, 0, none⟩ (.int .u32 (bits .or .u32 s (2 ^ (i % 32))))).setCell ⟨g, 1 + i % 32, none⟩ (.int .u64 x)).heap[k]? = w.heap[k]? := fun k l e hne => by
    have : k ≠ g := by rintro rfl; rw [hgl] at e; cases e; exact hne _ _ _ rfl
    rw [Below.heap_setCell _ _ _ _ this, Below.heap_setCell _ _ _ _ this]
  refine ⟨L, first, near, mo, lvs, sv, sp, bk_put h i hg hlf hB x hx, (hcb.kept (hk b _ hLb (by simp))).congr (fun i _ => hc i), hs.kept (fun k e => ?_) (fun _ _ => rfl), ?_, ?_⟩
  · rcases e with e | ⟨q, e⟩
    · exact hk k _ e (by simp)
    · exact hk k _ e (by simp)
  · rw [← h13, upd_self]; exact hp.kept (hk p _ hLp (by simp))
  · have t : Tn (fun k => (k = p ∨ k = b) ∨ ∃ l, L k = some l ∧ Lb.isPut j r l) w ((w.setCell ⟨g, 0, none⟩ (.int .u32 (bits .or .u32 s (2 ^ (i % 32))))).setCell ⟨g, 1 + i % 32, none⟩ (.int .u64 x)) :=
      Tn.set (Tn.set (Tn.refl _ _) _ _ (fun _ => .inr ⟨_, hgl, .inl ⟨rfl, rfl⟩⟩)) _ _ (fun _ => .inr ⟨_, hgl, .inl ⟨rfl, rfl⟩⟩)
    exact ⟨t, fun _ _ e _ => e, fun k l e => ⟨Nat.lt_of_lt_of_le (hlt k (by rw [e]; simp)) t.size, .inr e⟩, fun _ _ e => e⟩

/-- a leaf that was taken is the bank's -/
theorem bk_took {g : Nat} {w1 : World} (h : BK w L j r N first near mo lvs B) (t : Tn (fun k => k = p ∨ k = g) w w1) (hgl : g = w.heap.size ∨ ∃ i, L g = some (.sp i)) (hLp : L p = some .own) (hlt : ∀ k, L k ≠ none → k < w.heap.size) (x : Lb) :
    BK w1 (upd L g (some x)) j r N first near mo lvs B := by
  have hng : ∀ k l, L k = some l → (∀ i, l ≠ .sp i) → k ≠ g := fun k l e hne => by
    rintro rfl
    rcases hgl with e' | ⟨i, e'⟩
    · have := hlt k (by rw [e]; simp); omega
    · rw [e] at e'; cases e'; exact hne i rfl
  have hk : ∀ k l, L k = some l → l ≠ .own → (∀ i, l ≠ .sp i) → w1.heap[k]? = w.heap[k]? := fun k l e h1 h2 => t.block k (hlt k (by rw [e]; simp)) (by
    rintro (rfl | e')
    · rw [hLp] at e; cases e; exact h1 rfl
    · exact hng k l e h2 e')
  have up : ∀ k l, L k = some l → (∀ i, l ≠ .sp i) → upd L g (some x) k = some l := fun k l e hne => by rw [upd_other _ _ (hng k l e hne)]; exact e
  exact ⟨h.f0, fun g' e => ⟨up _ _ (h.nr g' e).1 (by simp), (h.nr g' e).2.kept (hk g' _ (h.nr g' e).1 (by simp) (by simp))⟩, h.nn, h.far.kept (fun b' e => hk b' _ (h.labf b' e) (by simp) (by simp)), fun b' e => up _ _ (h.labf b' e) (by simp), fun n k e => by
    obtain ⟨q1, s', c', q2, q3⟩ := h.lf n k e
    exact ⟨up _ _ q1 (by simp), s', c', q2.kept (hk k _ q1 (by simp) (by simp)), q3⟩, h.no, h.rg⟩

theorem isPut_own (j : Nat) (r : Bool) : ¬ Lb.isPut j r .own := by rintro (h | h | ⟨_, h⟩) <;> cases h
theorem isPut_row (j : Nat) (r : Bool) : ¬ Lb.isPut j r .row := by rintro (h | h | ⟨_, h⟩) <;> cases h

/-- behind take and add a leaf is there, in which the cell is set -/
theorem pt_new {g : Nat} {w1 w2 : World} (i : Nat) (h : BK w L j r N first near mo lvs B) (hno : lvs (i / 32) = none) (hcb : CB w b K fc) (hs : SPR w L sv sp) (hp : CB w p 18 c) (hLb : L b = some .row) (hLp : L p = some .own) (hlt : ∀ k, L k ≠ none → k < w.heap.size)
    (hpb : p ≠ b) (htk : TK p L sp c w w1 g) (x : Int) (hx : 0 ≤ x ∧ x ≤ 18446744073709551615) (had : AD b o K (upd L g (some (.lf j r (i / 32)))) j r (N + 1) (upd lvs (i / 32) (some g)) B fc w1 w2) :
    ∃ s cv, LF w2 g s cv ∧ PT p b o K L j r (N + 1) (upd B i (some x)) fc c w ((w2.setCell ⟨g, 0, none⟩ (.int .u32 (bits .or .u32 s (2 ^ (i % 32))))).setCell ⟨g, 1 + i % 32, none⟩ (.int .u64 x)) := by
  obtain ⟨sv', sp', cc, t1, t2, t3, t4, t5⟩ := htk
  obtain ⟨L2, first2, near2, mo2, a1, a2, a3⟩ := had
  obtain ⟨q1, s, cv, q2, q3⟩ := a1.lf (i / 32) g (upd_same _ _ _)
  have hgl : g = w.heap.size ∨ ∃ i, L g = some (.sp i) := by
    rcases t5 with ⟨e, _⟩ | ⟨i, e, _⟩
    · exact .inl e
    · exact .inr ⟨i, e⟩
  have hgp : g ≠ p := by
    rintro rfl
    rcases hgl with e | ⟨i, e⟩
    · have := hp.lt; omega
    · rw [hLp] at e; cases e
  have hgsp : ∀ q ∈ sp', q ≠ g := by
    intro q hq
    rintro rfl
    obtain ⟨iq, eq⟩ := List.getElem?_of_mem hq
    have hq2 := (t2.at' iq q eq).2.1
    rcases t5 with ⟨e, _⟩ | ⟨i, e, _, e2⟩
    · have := hlt q (by rw [hq2]; simp); omega
    · rw [e] at hq2; cases hq2
      rw [e2, List.getElem?_eq_none (Nat.le_refl _)] at eq; cases eq
  have hlt1 : ∀ k, upd L g (some (.lf j r (i / 32))) k ≠ none → k < w1.heap.size := fun k hk => by
    by_cases e : k = g
    · subst e; exact t3.cb.lt
    · rw [upd_other _ _ e] at hk; exact Nat.lt_of_lt_of_le (hlt k hk) t4.size
  have upn : ∀ k l, L k = some l → k ≠ g → upd L g (some (.lf j r (i / 32))) k = some l := fun k l e hne => by rw [upd_other _ _ hne]; exact e
  have hgs : ∀ g', sv'.ownBlock = some g' → g' ≠ g := fun g' e => by
    rintro rfl
    have := t2.lab g' e
    rcases hgl with e' | ⟨i, e'⟩
    · have := hlt g' (by rw [this]; simp); omega
    · rw [this] at e'; cases e'
  have hs2 : SPR w2 L2 sv' sp' := by
    refine ⟨t2.rw.kept (fun g' e => ?_), fun g' e => ?_, fun iq q e => ?_, t2.len⟩
    · exact a3.keep hlt1 (upn g' _ (t2.lab g' e) (hgs g' e)) (by intro h; cases h) (by rintro rfl; have := t2.lab _ e; rw [hLb] at this; cases this)
    · exact a3.old g' _ (upn g' _ (t2.lab g' e) (hgs g' e)) (by intro h; cases h)
    · obtain ⟨r1, r2, s', c', r3⟩ := t2.at' iq q e
      have hqg := hgsp q (List.mem_of_getElem? e)
      have hk := a3.keep hlt1 (upn q _ r2 hqg) (by intro h; cases h) (by rintro rfl; rw [hLb] at r2; cases r2)
      refine ⟨(vc_kept (fun g' e' => a3.keep hlt1 (upn g' _ (t2.lab g' e') (hgs g' e')) (by intro h; cases h) (by rintro rfl; have := t2.lab _ e'; rw [hLb] at this; cases this)) iq).trans r1, a3.old q _ (upn q _ r2 hqg) (by intro h; cases h), s', c', r3.kept hk⟩
  have hbg : b ≠ g := by
    rintro rfl
    rcases hgl with e | ⟨i, e⟩
    · have := hcb.lt; omega
    · rw [hLb] at e; cases e
  have hp2 : CB w2 p 18 (upd c 13 sv') := t1.kept (a3.keep hlt1 (upn p _ hLp hgp.symm) (by intro h; cases h) hpb)
  have hL2p : L2 p = some .own := a3.old p _ (upn p _ hLp hgp.symm) (by intro h; cases h)
  have hL2b : L2 b = some .row := a3.old b _ (upn b _ hLb hbg) (by intro h; cases h)
  have fin := pt_old (p := p) (b := b) (o := o) a1 i (upd_same _ _ _) q2 q3 x hx a2 (bcs_of (by simp [bcs]) (by simp [bcs]) (by simp [bcs])) hs2 hp2 (upd_same _ _ _) hL2b hL2p a3.lt
  obtain ⟨L3, f3, n3, m3, l3, v3, p3, g1, g2, g3, g4, g5⟩ := fin
  refine ⟨s, cv, q2, L3, f3, n3, m3, l3, v3, p3, g1, g2.congr (fun k _ => ?_), g3, g4.congr (fun k _ => ?_), ?_⟩
  · simp only [bcs]
    split
    · rfl
    · split
      · rfl
      · split <;> rfl
  · by_cases e : k = 13
    · subst e; rw [upd_same, upd_same]
    · rw [upd_other _ _ e, upd_other _ _ e, upd_other _ _ e]
  · have l1 : Lq (fun k => k = p ∨ k = b) (Lb.isPut j r) w L w1 (upd L g (some (.lf j r (i / 32)))) := by
      refine ⟨t4.mono (fun k hk e => ?_), fun k l e hP => ?_, fun k l e => ?_, fun k hk e => ?_⟩
      · rcases e with e | e
        · exact .inl (.inl e)
        · subst e
          rcases hgl with e' | ⟨i, e'⟩
          · omega
          · exact .inr ⟨_, e', .inr (.inr ⟨i, rfl⟩)⟩
      · exact upn k l e (by rintro rfl; rcases hgl with e' | ⟨i, e'⟩; (have := hlt k (by rw [e]; simp); omega); (rw [e] at e'; cases e'; exact hP (.inr (.inr ⟨i, rfl⟩))))
      · refine ⟨hlt1 k (by rw [e]; simp), ?_⟩
        by_cases e' : k = g
        · subst e'; rw [upd_same] at e; cases e; exact .inl (.inl ⟨rfl, rfl⟩)
        · rw [upd_other _ _ e'] at e; exact .inr e
      · rw [upd_other _ _ (by rintro rfl; rcases hgl with e' | ⟨i, e'⟩; omega; (rw [e] at e'; cases e'))]; exact e
    exact (l1.trans (a3.weak (fun k e => .inr e) (fun l e => .inl e))).trans g5

set_option maxHeartbeats 4000000 in
set_option maxRecDepth 100000 in
theorem put_bank (h : BK w L j r N first near mo lvs B) (hcb : CB w b K fc) (hc : ∀ i, fc i = bcs fc o first near mo i) (ho : o + 2 < K) (hs : SPR w L sv sp) (hp : CB w p 18 c) (h13 : c 13 = sv) (hLb : L b = some .row) (hLp : L p = some .own) (hlt : ∀ k, L k ≠ none → k < w.heap.size)
    (hN : N < 4611686018427387904) (i : Nat) (hi : i < 18446744073709551616) (x : Int) (hx : 0 ≤ x ∧ x ≤ 18446744073709551615) :
    Calls Tryz.prog 82 #[.pointer (some ⟨b, o, none⟩), .int .u64 (i : Int), .int .u64 x, .pointer (some ⟨p, 13, none⟩)] w fun e w' => e = .returned (.tuple #[]) ∧ PT p b o K L j r (N + 1) (upd B i (some x)) fc c w w' := by
  have c0 := hcb.cell o (by omega)
  have c1 := hcb.cell (o + 1) (by omega)
  have c2 := hcb.cell (o + 2) ho
  rw [hc] at c0 c1 c2
  simp only [bcs, if_true, show ¬ (o + 1 = o) by omega, show ¬ (o + 2 = o) by omega, show ¬ (o + 2 = o + 1) by omega, if_false] at c0 c1 c2
  have hpb : p ≠ b := by rintro rfl; rw [hLp] at hLb; cases hLb
  have HL := hid (leaf_raw h c0 c1 c2 (i / 32) (by omega))
  have e1 : ((i / 32 : Nat) : Int) = (i : Int) / 32 := by omega
  rw [e1] at HL
  have HPW : Hid (((2 : Int) ^ (i % 32)) % 4294967296 = 2 ^ (i % 32)) := by
    have h1 : (2 : Int) ^ (i % 32) = ((2 ^ (i % 32) : Nat) : Int) := by simp
    have h2 : 2 ^ (i % 32) ≤ 2 ^ 31 := Nat.pow_le_pow_right (by decide) (by omega)
    obtain ⟨z, hz⟩ : ∃ z : Nat, 2 ^ (i % 32) = z := ⟨_, rfl⟩
    show _ = _
    rw [h1, hz]
    rw [hz] at h2
    omega
  cases e : lvs (i / 32) with
  | some g =>
    obtain ⟨hgl, s, cv, hlf, hbb⟩ := h.lf _ g e
    have HE : Hid (PT p b o K L j r (N + 1) (upd B i (some x)) fc c w ((w.setCell ⟨g, 0, none⟩ (.int .u32 (bits .or .u32 s (2 ^ (i % 32))))).setCell ⟨g, 1 + i % 32, none⟩ (.int .u64 x))) := by
      obtain ⟨L', f', n', m', l', s', p', g1, g2⟩ := pt_old (o := o) h i e hlf hbb x hx hcb hc hs hp h13 hLb hLp hlt
      exact ⟨L', f', n', m', l', s', p', { g1 with far := mp_mono g1.far (Nat.le_succ N) }, g2⟩
    have k0 := hlf.cb.cell 0 (by omega)
    have k1 := hlf.cb.cell (1 + i % 32) (by omega)
    simp only [lfc, if_true] at k0
    simp only [lfc, show ¬ (1 + i % 32 = 0) by omega, if_false] at k1
    have z0 := hlf.cb.froz 0
    have z1 := hlf.cb.froz (1 + i % 32)
    have gl := hlf.cb.lt
    rw [e, pv_some] at HL
    clear h hcb hc hs hp hlt hlf hbb
    go_enter Tryz.func82, Tryz.ntmps82
    go_wp2_with (go_at_call 119; refine HL.out.mono ?_; rintro e w' ⟨rfl, rfl⟩)
    go_end0
    exact ⟨rfl, by rw [HPW.out]; exact HE.out⟩
  | none =>
    have HT := hid (take_spare hp h13 hs hLp hlt)
    have HA : Hid (∀ w1 g, TK p L sp c w w1 g → Calls Tryz.prog 123 #[.pointer (some ⟨b, o, none⟩), .int .u64 ((i : Int) / 32), .pointer (some ⟨g, 0, none⟩)] w1 fun e w' => e = .returned (.pointer (some ⟨g, 0, none⟩)) ∧ AD b o K (upd L g (some (.lf j r (i / 32)))) j r (N + 1) (upd lvs (i / 32) (some g)) B fc w1 w') := by
      intro w1 g htk
      obtain ⟨sv', sp', cc, t1, t2, t3, t4, t5⟩ := htk
      have hgl : g = w.heap.size ∨ ∃ i, L g = some (.sp i) := by
        rcases t5 with ⟨e, _⟩ | ⟨i, e, _⟩
        · exact .inl e
        · exact .inr ⟨i, e⟩
      have hbg : b ≠ g := by
        rintro rfl
        rcases hgl with e | ⟨i, e⟩
        · have := hcb.lt; omega
        · rw [hLb] at e; cases e
      rw [← e1]
      refine badd_raw (bk_took h t4 hgl hLp hlt _) e (upd_same _ _ _) t3 (hcb.kept (t4.block b hcb.lt (by rintro (q | q); exact hpb q.symm; exact hbg q))) hc ho (by rw [upd_other _ _ hbg]; exact hLb) (fun k hk => ?_) hN (by omega)
      by_cases e : k = g
      · subst e; exact t3.cb.lt
      · rw [upd_other _ _ e] at hk; exact Nat.lt_of_lt_of_le (hlt k hk) t4.size
    have HN2 : Hid (∀ w1 g w2, TK p L sp c w w1 g → AD b o K (upd L g (some (.lf j r (i / 32)))) j r (N + 1) (upd lvs (i / 32) (some g)) B fc w1 w2 →
        ∃ s v, w2.cell? ⟨g, 0, none⟩ = some (.int .u32 s) ∧ w2.cell? ⟨g, 1 + i % 32, none⟩ = some v ∧ w2.frozen? ⟨g, 0, none⟩ = false ∧ w2.frozen? ⟨g, 1 + i % 32, none⟩ = false ∧ g < w2.heap.size ∧ PT p b o K L j r (N + 1) (upd B i (some x)) fc c w ((w2.setCell ⟨g, 0, none⟩ (.int .u32 (bits .or .u32 s (2 ^ (i % 32))))).setCell ⟨g, 1 + i % 32, none⟩ (.int .u64 x))) := by
      intro w1 g w2 htk had
      obtain ⟨s, cv, q1, q2⟩ := pt_new i h e hcb hs hp hLb hLp hlt hpb htk x hx had
      have k0 := q1.cb.cell 0 (by omega)
      simp only [lfc, if_true] at k0
      exact ⟨s, _, k0, q1.cb.cell (1 + i % 32) (by omega), q1.cb.froz 0, q1.cb.froz _, q1.cb.lt, q2⟩
    rw [e, pv_none] at HL
    clear h hcb hc hs hp hlt
    go_enter Tryz.func82, Tryz.ntmps82
    go_wp2_with (first
      | (go_at_call 119; refine HL.out.mono ?_; rintro e w' ⟨rfl, rfl⟩)
      | (go_at_call 124; refine HT.out.mono ?_; rintro e w1 ⟨g, rfl, htk⟩; have HK := hid htk; clear htk; rw [pv_some])
      | (go_at_call 123; refine (HA.out w1 g HK.out).mono ?_; rintro e w2 ⟨rfl, had⟩; obtain ⟨s, v, k0, k1, z0, z1, gl, hend⟩ := HN2.out w1 g w2 HK.out had; have HE := hid hend; clear hend had))
    go_end0
    exact ⟨rfl, by rw [HPW.out]; exact HE.out⟩
end
end Go.Proofs.YtoidddfpekbliaaGreat
