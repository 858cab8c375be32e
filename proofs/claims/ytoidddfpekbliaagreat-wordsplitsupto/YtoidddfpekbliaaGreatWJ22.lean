/-
  word: what is left behind a store or a system call: the calls lie where they lay, the code is as it was.
-/
import Derived.Test.YtoidddfpekbliaaGreatWCall4
import Derived.Test.YtoidddfpekbliaaGreatWJ07
namespace Go.Proofs.YtoidddfpekbliaaGreat
set_option linter.unusedSimpArgs false
set_option linter.unusedVariables false
open Go.RowKit
attribute [local go_sem ↓] Go.wp_at_zero Go.wp_at_succ

/-- as PK, the world's labels free -/
def PQ (b cap : Nat) (vd vh : Value) (p N fb pw : Nat) (R : List RFun) (strict : Bool) (X : PSt) (w : World) (L : Nat → Option Lb) (Lw : Nat → Option Lab) (w' : World) : Prop :=
  ∃ L' Lw' fc' c', PR p N fb pw R strict X b cap vd vh fc' c' w' L' Lw' ∧ Tn (fun k => L k ≠ none ∨ Lw k ≠ none) w w' ∧ (∀ k, k < w.heap.size → L k = none → Lw k = none → L' k = none ∧ Lw' k = none) ∧ (∀ k, L k = some .prog → w'.heap[k]? = w.heap[k]? ∧ L' k = some .prog)

section
variable {p N fb pw : Nat} {R : List RFun} {strict : Bool} {X : PSt} {b cap : Nat} {vd vh : Value} {fc c : Nat → Value} {w : World} {L : Nat → Option Lb} {Lw : Nat → Option Lab} {fs : List Fr} {g : Fr}

theorem PQ.pl {w' : World} (h : PQ b cap vd vh p N fb pw R strict X w L Lw w') : PL p N fb pw R strict X w L Lw w' := by
  obtain ⟨L', Lw', fc', c', g1, g2, g3, _⟩ := h
  exact ⟨L', Lw', g1.pa, g2, g3⟩
theorem PQ.trans {M : Nat} {X' : PSt} {w1 w2 : World} {L1 : Nat → Option Lb} {Lw1 : Nat → Option Lab} (h : PQ b cap vd vh p M fb pw R strict X' w1 L1 Lw1 w2) (t : Tn (fun k => L k ≠ none ∨ Lw k ≠ none) w w1) (hl : ∀ k, k < w.heap.size → L k = none → Lw k = none → L1 k = none ∧ Lw1 k = none) (hp : ∀ k, L k = some .prog → w1.heap[k]? = w.heap[k]? ∧ L1 k = some .prog) : PQ b cap vd vh p M fb pw R strict X' w L Lw w2 := by
  obtain ⟨L2, Lw2, fc2, c2, g1, g2, g3, g4⟩ := h
  obtain ⟨_, _, _, t2, _⟩ := PL.trans (L := L) (Lw := Lw) (w := w) (p := p) (fb := fb) (pw := pw) (R := R) (strict := strict) ⟨L2, Lw2, g1.pa, g2, g3⟩ t hl
  refine ⟨L2, Lw2, fc2, c2, g1, t2, fun k hk h1 h2 => ?_, fun k e => ?_⟩
  · obtain ⟨q1, q2⟩ := hl k hk h1 h2
    exact g3 k (Nat.lt_of_lt_of_le hk t.size) q1 q2
  · obtain ⟨q1, q2⟩ := hp k e
    obtain ⟨q3, q4⟩ := g4 k q2
    exact ⟨q3.trans q1, q4⟩
theorem PR.pq (h : PR p N fb pw R strict X b cap vd vh fc c w L Lw) : PQ b cap vd vh p N fb pw R strict X w L Lw w := ⟨L, Lw, fc, c, h, Tn.refl _ _, fun _ _ a b => ⟨a, b⟩, fun _ e => ⟨rfl, e⟩⟩
theorem PQ.no {w1 w2 : World} (h : PQ b cap vd vh p N fb pw R strict X w L Lw w1) (t : Tn No w1 w2) : PQ b cap vd vh p N fb pw R strict X w L Lw w2 := by
  obtain ⟨L', Lw', fc', c', g1, g2, g3, g4⟩ := h
  exact ⟨L', Lw', fc', c', g1.no t, g2.thenNo t, g3, fun k e => ⟨(t.block k (g1.lt k (by rw [(g4 k e).2]; simp)) (fun e => e)).trans (g4 k e).1, (g4 k e).2⟩⟩
theorem PR.pqNo {w' : World} (h : PR p N fb pw R strict X b cap vd vh fc c w L Lw) (t : Tn No w w') : PQ b cap vd vh p N fb pw R strict X w L Lw w' := h.pq.no t
theorem PQ.mono {M : Nat} {w1 : World} (h : PQ b cap vd vh p N fb pw R strict X w L Lw w1) (hN : N ≤ M) : PQ b cap vd vh p M fb pw R strict X w L Lw w1 := by
  obtain ⟨L', Lw', fc', c', g1, g2, g3, g4⟩ := h
  exact ⟨L', Lw', fc', c', g1.mono hN, g2, g3, g4⟩

theorem PR.memQ {M' : Mem} {K : Nat} {w' : World} (h : PR p N fb pw R strict X b cap vd vh fc c w L Lw) (hK : N ≤ K) (hm : MPost p K M' vd vh w L c w') : PQ b cap vd vh p K fb pw R strict { X with M := M' } w L Lw w' := by
  obtain ⟨L', c', g1, g2, g3⟩ := hm
  have hlq := g2.lq h.lt
  obtain ⟨q1, q2, q3, q4⟩ := pw_kept h hlq
  have hne : ∀ k l, L k = some l → ¬ l.isMem → l ≠ .own → w'.heap[k]? = w.heap[k]? ∧ L' k = some l := fun k l e hn ho => ⟨hlq.keep h.lt e hn (by rintro rfl; rw [h.ox.bx.lp] at e; cases e; exact ho rfl), hlq.old k l e hn⟩
  refine ⟨L', Lw, fc, c', ⟨(h.ox.kept (fun k l e ho => hne k l e (isOp_isMem ho) (by rintro rfl; exact isOp_own ho)) g1.d.hp g1.d.hL (g3 12 (by omega) (by omega)) (g3 13 (by omega) (by omega)) g1.d.hlt).mono hK, g1, ?_, by rw [g3 9 (by omega) (by omega)]; exact h.c9, by rw [g3 10 (by omega) (by omega)]; exact h.c10, by rw [g3 11 (by omega) (by omega)]; exact h.c11, by rw [g3 14 (by omega) (by omega)]; exact h.c14, by rw [g3 15 (by omega) (by omega)]; exact h.c15, by rw [g3 16 (by omega) (by omega)]; exact h.c16, by rw [g3 17 (by omega) (by omega)]; exact h.c17, q1.mono hK, q2⟩, q3, q4, fun k e => hne k _ e isMem_prog (by simp)⟩
  rw [g3 0 (by omega) (by omega)]
  exact h.pg.kept (fun k e => (hne k _ e isMem_prog (by simp)).1) (fun k e => (hne k _ e isMem_prog (by simp)).2)

theorem PR.worldQ {S' : St} {K : Nat} {w' : World} (h : PR p N fb pw R strict X b cap vd vh fc c w L Lw) (hK : N ≤ K) (hl : Lft w pw Lw w' K S') : PQ b cap vd vh p K fb pw R strict { X with S := S' } w L Lw w' := by
  obtain ⟨Lw', g1, g2, g3⟩ := hl
  have hk : ∀ k l, L k = some l → w'.heap[k]? = w.heap[k]? := fun k l e => g2.block k (h.lt k (by rw [e]; simp)) (fun q => q (h.dis k (by rw [e]; simp)))
  have hlt : ∀ k, L k ≠ none → k < w'.heap.size := fun k hk => Nat.lt_of_lt_of_le (h.lt k hk) g2.size
  have hcb := h.ox.bx.pc.kept (hk p _ h.ox.bx.lp)
  exact ⟨L, Lw', fc, c, ⟨(h.ox.mono hK).kept (fun k l e _ => ⟨hk k l e, e⟩) hcb h.ox.bx.lp rfl rfl hlt, (h.mb.mono hK).keptq (fun k l e _ => ⟨hk k l e, e⟩) hcb h.ox.bx.lp (fun _ _ _ => rfl) hlt, h.pg.kept (fun k e => hk k _ e) (fun _ e => e), h.c9, h.c10, h.c11, h.c14, h.c15, h.c16, h.c17, g1, fun k hk => g3 k (h.lt k hk) (h.dis k hk)⟩, g2.mono (fun _ _ e => .inr e), fun k hk' h1 h2 => ⟨h1, g3 k hk' h2⟩, fun k e => ⟨hk k _ e, e⟩⟩

set_option maxHeartbeats 1000000 in
theorem exit_q (h : PR p N fb pw R strict X b cap vd vh fc c w L Lw) (x : Int) (hx : 0 ≤ x ∧ x ≤ 18446744073709551615) : Calls Tryz.prog 122 #[.pointer (some ⟨p, 0, none⟩), .int .u64 x] w fun e w' => e = .returned (.tuple #[]) ∧ PQ b cap vd vh p N fb pw R strict (X.exit x) w L Lw w' := by
  have k14 := h.ox.bx.pc.cell 14 (by omega)
  have k15 := h.ox.bx.pc.cell 15 (by omega)
  have z14 := h.ox.bx.pc.froz 14
  have z15 := h.ox.bx.pc.froz 15
  have plt := h.ox.bx.pc.lt
  have HE : Hid (PQ b cap vd vh p N fb pw R strict (X.exit x) w L Lw ((w.setCell ⟨p, 14, none⟩ (.int .i64 1)).setCell ⟨p, 15, none⟩ (.int .i64 (x % 256)))) := by
    have hne : ∀ k, L k = some .prog → k ≠ p := fun k e q => by subst q; rw [h.ox.bx.lp] at e; cases e
    obtain ⟨g1, t1⟩ := h.own (X' := { X with status := 1 }) 14 (by omega) (by omega) (.int .i64 1) rfl rfl rfl (by rw [upd_other _ _ (by omega)]; exact h.c11) (upd_same _ _ _) (by rw [upd_other _ _ (by omega)]; exact h.c15) (by rw [upd_other _ _ (by omega)]; exact h.c16) (by rw [upd_other _ _ (by omega)]; exact h.c17)
    obtain ⟨g2, t2⟩ := g1.own (X' := X.exit x) 15 (by omega) (by omega) (.int .i64 (x % 256)) rfl rfl rfl (by rw [upd_other _ _ (by omega)]; exact g1.c11) (by rw [upd_other _ _ (by omega)]; exact g1.c14) (upd_same _ _ _) (by rw [upd_other _ _ (by omega)]; exact g1.c16) (by rw [upd_other _ _ (by omega)]; exact g1.c17)
    exact ⟨L, Lw, _, _, g2, t1.then t2, fun _ _ h1 h2 => ⟨h1, h2⟩, fun k e => ⟨(Below.heap_setCell _ _ _ _ (hne k e)).trans (Below.heap_setCell _ _ _ _ (hne k e)), e⟩⟩
  have hx1 := hx.1
  have hx2 := hx.2
  clear h hx
  go_enter Tryz.func122, Tryz.ntmps122
  go_wp2
  go_end0
  exact ⟨rfl, HE.out⟩
end
end Go.Proofs.YtoidddfpekbliaaGreat
namespace Go.Proofs.YtoidddfpekbliaaGreat
set_option linter.unusedSimpArgs false
set_option linter.unusedVariables false
open Go.RowKit
attribute [local go_sem ↓] Go.wp_at_zero Go.wp_at_succ

/-- bytes are stored one by one -/
def stb (M : Mem) (x : Int) (l : List UInt8) : Nat → Mem
  | 0 => M
  | k + 1 => ((stb M x l k).store (IntKind.u64.wrap (x + (k : Int))) 1 (((l[k]?).getD 0).toNat : Int)).getD (stb M x l k)

section
variable {p N fb pw : Nat} {R : List RFun} {strict : Bool} {X : PSt} {b cap : Nat} {vd vh : Value} {fc c : Nat → Value} {w : World} {L : Nat → Option Lb} {Lw : Nat → Option Lab} {fs : List Fr} {g : Fr}

theorem PR.stores (h : PR p N fb pw R strict X b cap vd vh fc c w L Lw) (x s y : Int) (hs : s = 1 ∨ s = 4 ∨ s = 8) (hN : N < 4611686018427387900) :
    Calls Tryz.prog 54 #[.pointer (some ⟨p, 1, none⟩), .int .u64 x, .int .i64 s, .int .u64 y] w fun e w' => e = .returned (.bool (X.M.store x s y).isSome) ∧ PQ b cap vd vh p (N + 2) fb pw R strict { X with M := (X.M.store x s y).getD X.M } w L Lw w' :=
  (mstore_raw h.mb x s y hs hN).mono (fun e w' z => ⟨z.1, h.memQ (by omega) z.2⟩)
theorem PR.reads (h : PR p N fb pw R strict X b cap vd vh fc c w L Lw) (fd : Int) (n : Nat) (h0 : -9223372036854775808 ≤ fd) (h1 : fd ≤ 9223372036854775807) (hN : N + N ≤ 1099511627776) (hn : n ≤ 18446744073709551615) :
    Calls Tryz.prog 162 #[.pointer (some ⟨pw, 0, none⟩), .int .i64 fd, .int .u64 (n : Int)] w fun e w' => e = .returned (.tuple #[.string (str (readTx X.S fd n)), .int .i64 (readRes X.S fd n)]) ∧ PQ b cap vd vh p N fb pw R strict { X with S := X.S.sread fd n } w L Lw w' :=
  (read_raw pw Lw N X.S fd n w h.pw h0 h1 hN hn).mono (fun e w' z => ⟨z.1, h.worldQ (Nat.le_refl N) z.2⟩)

/-- what reading does -/
def PSt.sysRead (X : PSt) (fd x n : Int) : Int × PSt :=
  if 2147483648 < n then (18446744073709551594, X) else if X.M.there x n = false then (18446744073709551602, X) else
    (IntKind.u64.wrap (readRes X.S (wrap64 fd) n.toNat), { X with S := X.S.sread (wrap64 fd) n.toNat, M := stb X.M x (readTx X.S (wrap64 fd) n.toNat) (readTx X.S (wrap64 fd) n.toNat).length })

theorem wrapi_rg (x : Int) : -9223372036854775808 ≤ wrap64 x ∧ wrap64 x ≤ 9223372036854775807 := by unfold wrap64; omega

set_option maxHeartbeats 4000000 in
set_option maxRecDepth 100000 in
theorem sysRead_raw {K : Nat} (h : PR p N fb pw R strict X b cap vd vh fc c w L Lw) (fd x : Int) (n : Nat) (hN : N + N ≤ 1099511627776) (hn : n ≤ 18446744073709551615) (hNK : N ≤ K) (hK : n ≤ 2147483648 → X.M.there x n = true → N + 2 * n ≤ K) :
    Calls Tryz.prog 149 #[.pointer (some ⟨p, 0, none⟩), .int .u64 fd, .int .u64 x, .int .u64 (n : Int)] w fun e w' => e = .returned (.int .u64 (X.sysRead fd x n).1) ∧ PQ b cap vd vh p K fb pw R strict (X.sysRead fd x n).2 w L Lw w' := by
  have plt := h.ox.bx.pc.lt
  have k9 := h.ox.bx.pc.cell 9 (by omega)
  rw [h.c9] at k9
  have HNO : Hid (∀ w0, Tn No w w0 → PQ b cap vd vh p K fb pw R strict X w L Lw w0) := hid (fun w0 t => (h.mono (by omega)).pqNo t)
  by_cases h1 : (2147483648 : Int) < (n : Int)
  · have e : X.sysRead fd x n = (18446744073709551594, X) := by unfold PSt.sysRead; rw [if_pos h1]
    rw [e]
    have d1 : decide ((2147483648 : Int) < (n : Int)) = true := decide_eq_true h1
    clear h
    go_enter Tryz.func149, Tryz.ntmps149
    go_wp2
    go_ret
    exact ⟨rfl, HNO.out w (Tn.refl No w)⟩
  · have d1 : decide ((2147483648 : Int) < (n : Int)) = false := decide_eq_false h1
    have HT := hid (mthere_raw h.mb x n)
    cases h2 : X.M.there x n
    · have e : X.sysRead fd x n = (18446744073709551602, X) := by unfold PSt.sysRead; rw [if_neg h1, h2]; rfl
      rw [e]
      rw [h2] at HT
      clear h
      go_enter Tryz.func149, Tryz.ntmps149
      go_wp2_with (go_at_call 161; refine HT.out.mono ?_; rintro e w' ⟨rfl, rfl⟩)
      go_ret
      exact ⟨rfl, HNO.out _ (Tn.refl No _)⟩
    · rw [h2] at HT
      have hK2 := hK (by omega) h2
      clear hK
      obtain ⟨r0, r1⟩ := wrapi_rg fd
      have e : X.sysRead fd x n = (IntKind.u64.wrap (readRes X.S (wrap64 fd) n), { X with S := X.S.sread (wrap64 fd) n, M := stb X.M x (readTx X.S (wrap64 fd) n) (readTx X.S (wrap64 fd) n).length }) := by
        unfold PSt.sysRead; rw [if_neg h1, h2]; simp
      rw [e]
      have HRD := hid (h.reads (wrap64 fd) n r0 r1 hN hn)
      obtain ⟨l, hl⟩ : ∃ l, readTx X.S (wrap64 fd) n = l := ⟨_, rfl⟩
      obtain ⟨S', hS⟩ : ∃ S', X.S.sread (wrap64 fd) n = S' := ⟨_, rfl⟩
      obtain ⟨rr, hrr⟩ : ∃ rr, readRes X.S (wrap64 fd) n = rr := ⟨_, rfl⟩
      have hll : l.length ≤ n := by
        rw [← hl]; unfold readTx nx
        split
        · simp; omega
        · split
          · simp; omega
          · simp
      rw [hl, hS, hrr] at HRD
      rw [hl, hS, hrr]
      have HST : Hid (∀ k w1, k < l.length → PQ b cap vd vh p (N + 2 * k) fb pw R strict { X with S := S', M := stb X.M x l k } w L Lw w1 → ∀ w2, Tn No w1 w2 → Calls Tryz.prog 54 #[.pointer (some ⟨p, 1, none⟩), .int .u64 (IntKind.u64.wrap (x + (k : Int))), .int .i64 1, .int .u64 ((((l[k]?).getD 0).toNat : Nat) : Int)] w2 fun e w' => (∃ v, e = .returned (.bool v)) ∧ PQ b cap vd vh p (N + 2 * (k + 1)) fb pw R strict { X with S := S', M := stb X.M x l (k + 1) } w L Lw w') := by
        rintro k w1 hk ⟨L1, Lw1, fc1, c1, g1, g2, g3, g4⟩ w2 t
        refine ((g1.no t).stores (IntKind.u64.wrap (x + (k : Int))) 1 _ (.inl rfl) (by omega)).mono ?_
        rintro e w' ⟨rfl, hpl⟩
        exact ⟨⟨_, rfl⟩, hpl.trans (g2.thenNo t) g3 (fun k e => ⟨(t.block k (g1.lt k (by rw [(g4 k e).2]; simp)) (fun e => e)).trans (g4 k e).1, (g4 k e).2⟩)⟩
      have hsz := str_size l
      have hl63 : (l.length : Int) ≤ 2147483648 := by omega
      clear h e
      go_enter Tryz.func149, Tryz.ntmps149
      go_wp2_with (first
        | (go_at_call 161; refine HT.out.mono ?_; rintro e w' ⟨rfl, rfl⟩)
        | (go_at_call 162; refine HRD.out.mono ?_; rintro e w1 ⟨rfl, hpl⟩; have HP1 := hid hpl; clear hpl))
      go_loopw [36] (fun i wr => ∃ k : Nat, k ≤ l.length ∧ i = .int .i64 (k : Int) ∧ PQ b cap vd vh p (N + 2 * k) fb pw R strict { X with S := S', M := stb X.M x l k } w' L Lw wr) (fun i _ => l.length - (intOf i).toNat)
      case atStart => exact ⟨0, by omega, rfl, HP1.out⟩
      case round =>
        obtain ⟨k, hk, rfl, hpl⟩ := hrel
        clear HP1
        by_cases hlt : k < l.length
        · have HCA := hid (HST.out k wr hlt hpl)
          have hki : (k : Int) < (l.length : Int) := by omega
          have hk0 : (0 : Int) ≤ (k : Int) := by omega
          have hwk := wrapu_small (k : Int) (by omega) (by omega)
          have hv : ∀ (hh : k < (str l).size), IntKind.u64.wrap (((str l)[k]'hh).toNat : Int) = (((l[k]?).getD 0).toNat : Int) := fun hh => by
            have e1 : (str l)[k]'hh = l[k]'hlt := by simp [str, ByteArray.getElem_eq_getElem_data]
            rw [e1, List.getElem?_eq_getElem hlt]
            exact wrapu_small _ (by omega) (by have := (l[k]'hlt).toNat_lt; simp; omega)
          obtain ⟨by_, hby⟩ : ∃ by_ : Int, (((l[k]?).getD 0).toNat : Int) = by_ := ⟨_, rfl⟩
          rw [hby] at HCA
          simp only [hby] at hv
          clear hby
          clear hpl HST
          go_wp2_with fail
          go_region_held3 (fun w' => True) (trivial) (first
            | (go_at_call 54; refine (HCA.out _ (by repeat (first | exact Tn.refl _ _ | apply Tn.drew | apply Tn.drewN | apply Tn.alloc | (refine Tn.then ?_ (by assumption)) | (refine Tn.thenNo ?_ (by assumption))))).mono ?_; rintro e w2 ⟨⟨v2, rfl⟩, hpl2⟩; have HP2 := hid hpl2; clear hpl2))
          go_wp2
          exact ⟨⟨k + 1, by omega, by go_num, HP2.out⟩, by simp [intOf]; omega⟩
        · obtain rfl : k = l.length := by omega
          go_wp2
          go_ret
          exact ⟨rfl, hpl.mono (show N + 2 * l.length ≤ K by omega)⟩
end
end Go.Proofs.YtoidddfpekbliaaGreat
namespace Go.Proofs.YtoidddfpekbliaaGreat
set_option linter.unusedSimpArgs false
set_option linter.unusedVariables false
open Go.RowKit
attribute [local go_sem ↓] Go.wp_at_zero Go.wp_at_succ

theorem wrapi_eq (x : Int) : IntKind.i64.wrap x = wrap64 x := by
  by_cases h : (9223372036854775808 : Int) ≤ x % 18446744073709551616
  · simp [IntKind.wrap, IntKind.bits, IntKind.signed, wrap64, h]; omega
  · simp [IntKind.wrap, IntKind.bits, IntKind.signed, wrap64, h]; omega

/-- the bytes up to a byte 0 -/
def scan (M : Mem) (x : Int) : Nat → Nat → List UInt8 → Option Int × List UInt8
  | 0, _, _ => (some 18446744073709551580, [])
  | f + 1, k, l => match M.load (IntKind.u64.wrap (x + (k : Int))) 1 with
    | none => (some 18446744073709551602, [])
    | some v => if v = 0 then (none, l) else scan M x f (k + 1) (l ++ [UInt8.ofNat v.toNat])

def PSt.sysOpen (X : PSt) (x fl : Int) : Int × PSt :=
  match scan X.M x 256 0 [] with
  | (some e, _) => (e, X)
  | (none, l) => (IntKind.u64.wrap (openRes X.S (str l) (wrap64 fl)), { X with S := openSt X.S (str l) (wrap64 fl) })

/-- one more byte goes behind those that are there -/
theorem one_more {w : World} {v : Value} {l : List UInt8} (h : BR w v l) (c : UInt8) (hl : l.length ≤ 1099511627776) :
    ∃ v' w', (Builtin.append_ #[23, 23] 23 #[v, .slice (some ⟨w.heap.size, 0, none⟩) 1 1]).run Tryz.prog (w.alloc (.cells #[.int .u8 (c.toNat : Int)] 5)) = .ok v' w' ∧ BR w' v' (l ++ [c]) ∧ (w.alloc (.cells #[.int .u8 (c.toNat : Int)] 5)).grownBy w' v.ownBlock ∧ (v'.ownBlock = v.ownBlock ∨ v'.ownBlock = some (w.heap.size + 1)) := by
  have hsrc : Src Tryz.prog 1 23 (.slice (some ⟨w.heap.size, 0, none⟩) 1 1) ([c] : List UInt8).length (bc [c]) (w.alloc (.cells #[.int .u8 (c.toNat : Int)] 5)) := by
    refine Src.ofSlice _ Tryz.underlying23 _ 1 1 _ (by simp [bc]) (fun j u hu => ?_) (bc_one _)
    have hj : j = 0 ∧ u = .int .u8 (c.toNat : Int) := by
      simp only [bc, List.map_cons, List.map_nil] at hu
      cases j with
      | zero => simp at hu; exact ⟨rfl, hu.symm⟩
      | succ j => simp at hu
    obtain ⟨rfl, rfl⟩ := hj
    rw [addr_add, World.cell?_alloc_at _ _ _ _ (by simp)]
    rfl
  obtain ⟨v', w', hr, hbr, hg, hown⟩ := br_append 23 (h.no ((Tn.refl No w).alloc _)) hsrc (by simp; omega)
  exact ⟨v', w', hr, hbr, hg, by simpa using hown⟩

section
variable {p N fb pw : Nat} {R : List RFun} {strict : Bool} {X : PSt} {b cap : Nat} {vd vh : Value} {fc c : Nat → Value} {w : World} {L : Nat → Option Lb} {Lw : Nat → Option Lab} {fs : List Fr} {g : Fr}

/-- the name so far lies in a block of its own -/
def NM (w wr : World) (v : Value) (l : List UInt8) : Prop := Tn No w wr ∧ BR wr v l ∧ ∀ g, v.ownBlock = some g → w.heap.size ≤ g

theorem nm_more {wr : World} {v : Value} {l : List UInt8} (h : NM w wr v l) (c : UInt8) (hl : l.length ≤ 256) : ∃ a n cp w', (Builtin.append_ #[23, 23] 23 #[v, .slice (some ⟨wr.heap.size, 0, none⟩) 1 1]).run Tryz.prog (wr.alloc (.cells #[.int .u8 (c.toNat : Int)] 5)) = .ok (.slice a n cp) w' ∧ NM w w' (.slice a n cp) (l ++ [c]) := by
  obtain ⟨t, hbr, ho⟩ := h
  obtain ⟨v', w', hr, hb, hg, hown⟩ := one_more hbr c (by omega)
  obtain ⟨a, cp, ev, _⟩ := hb.rw.form
  subst ev
  refine ⟨a, _, cp, w', hr, ?_, hb, fun g' e => ?_⟩
  · refine ((t.alloc _).trans (Tn.of_grown hg) (fun _ _ e => e) (fun i hi e => ?_))
    have := ho i e; omega
  · rcases hown with e' | e'
    · rw [e] at e'; exact ho g' e'.symm
    · rw [e] at e'; cases e'; have := t.size; omega

theorem PR.opens (h : PR p N fb pw R strict X b cap vd vh fc c w L Lw) (s : ByteArray) (fl : Int) (hN : N + 2 ≤ 1099511627776) (hs : s.size ≤ maxLen) :
    Calls Tryz.prog 164 #[.pointer (some ⟨pw, 0, none⟩), .string s, .int .i64 fl] w fun e w' => e = .returned (.int .i64 (openRes X.S s fl)) ∧ PQ b cap vd vh p (N + 2) fb pw R strict { X with S := openSt X.S s fl } w L Lw w' :=
  (open_raw pw Lw N X.S s fl w h.pw hN hs).mono (fun e w' z => ⟨z.1, h.worldQ (by omega) z.2⟩)

theorem load_rg {x s v : Int} {M : Mem} (hs : s = 1) (hv : M.load x s = some v) : 0 ≤ v ∧ v < 256 := by
  subst hs
  unfold Mem.load at hv
  cases e : partOf M x 1 with
  | none => rw [e] at hv; cases hv
  | some a =>
    rw [e] at hv
    simp only [Option.map_some, Option.some.injEq] at hv
    rw [← hv]
    have key : ∀ y, 0 ≤ bits .and .u64 y 255 ∧ bits .and .u64 y 255 < 256 := by
      intro y
      have h1 : bits .and .u64 y 255 = IntKind.u64.wrap ((BitVec.ofInt 64 y &&& BitVec.ofInt 64 255).toNat : Int) := rfl
      have h2 : (BitVec.ofInt 64 y &&& BitVec.ofInt 64 255).toNat ≤ 255 := by
        rw [BitVec.toNat_and]
        exact Nat.and_le_right
      have h3 := wrapu_small ((BitVec.ofInt 64 y &&& BitVec.ofInt 64 255).toNat : Int) (by omega) (by omega)
      rw [h1, h3]
      omega
    unfold ldv
    have : lw 1 = 255 := rfl
    rw [this]
    split
    · exact key _
    · exact key _

set_option maxHeartbeats 4000000 in
set_option maxRecDepth 100000 in
theorem sysOpen_raw (h : PR p N fb pw R strict X b cap vd vh fc c w L Lw) (x fl : Int) (hN : N + 2 ≤ 1099511627776) :
    Calls Tryz.prog 151 #[.pointer (some ⟨p, 0, none⟩), .int .u64 x, .int .u64 fl] w fun e w' => e = .returned (.int .u64 (X.sysOpen x fl).1) ∧ PQ b cap vd vh p (N + 2) fb pw R strict (X.sysOpen x fl).2 w L Lw w' := by
  have plt := h.ox.bx.pc.lt
  have HLD : Hid (∀ wr, Tn No w wr → ∀ k : Nat, Calls Tryz.prog 57 #[.pointer (some ⟨p, 1, none⟩), .int .u64 (IntKind.u64.wrap (x + (k : Int))), .int .i64 1] wr fun e w' => e = .returned (.tuple #[.int .u64 ((X.M.load (IntKind.u64.wrap (x + (k : Int))) 1).getD 0), .bool (X.M.load (IntKind.u64.wrap (x + (k : Int))) 1).isSome]) ∧ w' = wr) := hid (fun wr t k => mload_raw (h.no t).mb _ 1 (.inl rfl))
  have HK9 : Hid (∀ wr, Tn No w wr → wr.cell? ⟨p, 9, none⟩ = some (.pointer (some ⟨pw, 0, none⟩)) ∧ p < wr.heap.size) := hid (fun wr t => ⟨by rw [(h.no t).ox.bx.pc.cell 9 (by omega), h.c9], (h.no t).ox.bx.pc.lt⟩)
  have HOP : Hid (∀ wr, Tn No w wr → ∀ s : ByteArray, s.size ≤ maxLen → Calls Tryz.prog 164 #[.pointer (some ⟨pw, 0, none⟩), .string s, .int .i64 (wrap64 fl)] wr fun e w' => e = .returned (.int .i64 (openRes X.S s (wrap64 fl))) ∧ PQ b cap vd vh p (N + 2) fb pw R strict { X with S := openSt X.S s (wrap64 fl) } w L Lw w' ∧ ∀ k, w.heap.size ≤ k → k < wr.heap.size → w'.heap[k]? = wr.heap[k]?) := hid (fun wr t s hs => ((h.no t).opens s (wrap64 fl) hN hs).mono (fun e w' z => ⟨z.1, z.2.trans t.any (fun k _ h1 h2 => ⟨h1, h2⟩) (fun k e => ⟨t.block k (h.lt k (by rw [e]; simp)) (fun e => e), e⟩), fun k h1 h2 => by
    obtain ⟨_, _, _, _, _, tt, _⟩ := z.2
    refine tt.block k h2 ?_
    rintro (q | q)
    · have := h.lt k q; omega
    · have := h.pw.lt k q; omega⟩))
  have HNO : Hid (∀ wr, Tn No w wr → PQ b cap vd vh p (N + 2) fb pw R strict X w L Lw wr) := hid (fun wr t => (h.mono (by omega)).pqNo t)
  have HNM : Hid (NM w w (.slice none 0 0) []) := hid ⟨Tn.refl No w, BR.nil w, fun _ e => by cases e⟩
  obtain ⟨res, hres⟩ : ∃ res, scan X.M x 256 0 [] = res := ⟨_, rfl⟩
  have HRES : Hid (∀ e l, res = (some e, l) → X.sysOpen x fl = (e, X)) := hid (fun e l q => by unfold PSt.sysOpen; rw [hres, q])
  have HRES2 : Hid (∀ l, res = (none, l) → X.sysOpen x fl = (IntKind.u64.wrap (openRes X.S (str l) (wrap64 fl)), { X with S := openSt X.S (str l) (wrap64 fl) })) := hid (fun l q => by unfold PSt.sysOpen; rw [hres, q])
  obtain ⟨ans, hans⟩ : ∃ ans, X.sysOpen x fl = ans := ⟨_, rfl⟩
  rw [hans] at HRES HRES2
  rw [hans]
  have HS0 := hid hres
  clear h hres hans
  go_enter Tryz.func151, Tryz.ntmps151
  go_wp2_with fail
  go_loopw [7, 11] (fun v i wr => ∃ (k : Nat) (l : List UInt8) (a : Option Addr) (cp : Nat), k ≤ 256 ∧ i = .int .u64 (k : Int) ∧ v = .slice a k cp ∧ NM w wr v l ∧ l.length = k ∧ scan X.M x (256 - k) k l = res) (fun _ i _ => 256 - (intOf i).toNat)
  case atStart => exact ⟨0, [], none, 0, by omega, rfl, rfl, HNM.out, rfl, HS0.out⟩
  case round =>
    obtain ⟨k, l, a, cp, hk, rfl, rfl, hnm, hlk, hsc⟩ := hrel
    clear HNM HS0
    have t0 := hnm.1
    by_cases hlt : k < 256
    · have HL := hid (HLD.out wr t0 k)
      obtain ⟨f, hf⟩ : ∃ f, 256 - k = f + 1 := ⟨255 - k, by omega⟩
      rw [hf] at hsc
      simp only [scan] at hsc
      have hki : (k : Int) < 256 := by omega
      cases hld : X.M.load (IntKind.u64.wrap (x + (k : Int))) 1 with
      | none =>
        rw [hld] at HL hsc
        have HE := hid (HRES.out _ _ hsc.symm)
        have HN1 := hid (HNO.out wr t0)
        clear HLD HOP HRES HRES2 hnm hsc HNO
        go_wp2_with (go_at_call 57; refine HL.out.mono ?_; rintro e w1 ⟨rfl, rfl⟩)
        go_ret
        exact ⟨by rw [HE.out]; rfl, by rw [HE.out]; exact HN1.out⟩
      | some v =>
        rw [hld] at HL hsc
        simp only at hsc
        by_cases hv : v = 0
        · subst hv
          rw [if_pos rfl] at hsc
          have HE := hid (HRES2.out _ hsc.symm)
          obtain ⟨k9, plr⟩ := HK9.out wr t0
          have hsl : (str l).size ≤ maxLen := by rw [str_size, hlk]; unfold maxLen; omega
          have hcv : ∀ q, (convert 23 9 (.slice a k cp)).run Tryz.prog (wr.drewN q) = .ok (.string (str l)) (wr.drewN q) := fun q => br_string (w := wr.drewN q) (hnm.2.1.no ((Tn.refl No wr).drewN q))
          have hcv1 : (convert 23 9 (.slice a k cp)).run Tryz.prog wr.drew = .ok (.string (str l)) wr.drew := hcv 1
          have HOO : Hid (∀ wq, Tn No wr wq → Calls Tryz.prog 164 #[.pointer (some ⟨pw, 0, none⟩), .string (str l), .int .i64 (wrap64 fl)] wq fun e w' => e = .returned (.int .i64 (openRes X.S (str l) (wrap64 fl))) ∧ PQ b cap vd vh p (N + 2) fb pw R strict { X with S := openSt X.S (str l) (wrap64 fl) } w L Lw w' ∧ w'.cell? ⟨p, 9, none⟩ = some (.pointer (some ⟨pw, 0, none⟩)) ∧ (convert 23 9 (.slice a k cp)).run Tryz.prog w' = .ok (.string (str l)) w') := hid (fun wq t => (HOP.out wq (t0.then t) (str l) hsl).mono (fun e w' z => ⟨z.1, z.2.1, by
            obtain ⟨L1, Lw1, fc1, c1, g1, _⟩ := z.2.1
            rw [g1.ox.bx.pc.cell 9 (by omega), g1.c9], br_string ((hnm.2.1.no t).kept (fun g' e => z.2.2 g' (hnm.2.2 g' e) ((hnm.2.1.no t).lt g' e)))⟩))
          rw [← wrapi_eq fl] at HOO HE
          clear HLD HOP HRES HRES2 hnm hsc HNO hcv HK9 hlk hsl
          go_wp2_with (go_at_call 57; refine HL.out.mono ?_; rintro e w1 ⟨rfl, rfl⟩)
          go_region_held3 (fun w' => w'.cell? ⟨p, 9, none⟩ = some (.pointer (some ⟨pw, 0, none⟩)) ∧ (convert 23 9 (.slice a k cp)).run Tryz.prog w' = .ok (.string (str l)) w') (go_keep) (first
            | (go_at_call 164; refine (HOO.out _ (by repeat (first | exact Tn.refl _ _ | apply Tn.drew | apply Tn.drewN | apply Tn.alloc | (refine Tn.then ?_ (by assumption)) | (refine Tn.thenNo ?_ (by assumption))))).mono ?_; rintro e w2 ⟨rfl, hpl2, k92, hc2⟩; have HP2 := hid hpl2; clear hpl2))
          go_wp2
          go_ret
          exact ⟨by rw [HE.out]; rfl, by rw [HE.out]; exact HP2.out⟩
        · rw [if_neg hv] at hsc
          have hrg := load_rg rfl hld
          obtain ⟨a2, n2, cp2, w2, hr2, hnm2⟩ := nm_more hnm (UInt8.ofNat v.toNat) (by omega)
          have hb8 : IntKind.u8.wrap v = (((UInt8.ofNat v.toNat).toNat : Nat) : Int) := by
            rw [IntKind.wrap_u8']
            have : (UInt8.ofNat v.toNat).toNat = v.toNat % 256 := by simp
            rw [this]; omega
          obtain ⟨c8, hc8⟩ : ∃ c8 : Int, (((UInt8.ofNat v.toNat).toNat : Nat) : Int) = c8 := ⟨_, rfl⟩
          rw [hc8] at hb8 hr2
          clear hc8
          have hv2 : (v == 0) = false := by simpa using hv
          have hn2 : n2 = k + 1 := by
            obtain ⟨_, cpx, ex, _⟩ := hnm2.2.1.rw.form
            simp only [Value.slice.injEq] at ex
            rw [ex.2.1, List.length_append, hlk]; rfl
          subst hn2
          have HR2 := hid hr2
          have HN2 := hid hnm2
          have HSC := hid hsc
          have HLK : Hid ((l ++ [UInt8.ofNat v.toNat]).length = k + 1) := hid (by rw [List.length_append, hlk]; rfl)
          have HFF := hid hf
          clear HLD HOP HRES HRES2 hnm hsc HNO HK9 hr2 hnm2 hlk hld
          go_wp2_with (first
            | (go_at_call 57; refine HL.out.mono ?_; rintro e w1 ⟨rfl, rfl⟩)
            | (at_builtin; refine wpList_app _ rfl _ _ _ _ rfl _ _ rfl rfl _ w2 HR2.out ?_))
          refine ⟨⟨k + 1, l ++ [UInt8.ofNat v.toNat], a2, cp2, by omega, by go_num, rfl, HN2.out, HLK.out, ?_⟩, by simp [intOf]; omega⟩
          have : 256 - (k + 1) = f := by have := HFF.out; omega
          rw [this]; exact HSC.out
    · obtain rfl : k = 256 := by omega
      simp only [Nat.sub_self, scan] at hsc
      have HE := hid (HRES.out _ _ hsc.symm)
      have HN1 := hid (HNO.out wr t0)
      clear HLD HOP HRES HRES2 hnm hsc HNO
      go_wp2
      go_ret
      exact ⟨by rw [HE.out]; rfl, by rw [HE.out]; exact HN1.out⟩
end
end Go.Proofs.YtoidddfpekbliaaGreat
namespace Go.Proofs.YtoidddfpekbliaaGreat
set_option linter.unusedSimpArgs false
set_option linter.unusedVariables false
open Go.RowKit
attribute [local go_sem ↓] Go.wp_at_zero Go.wp_at_succ

/-- the byte at a place, nought where there is none -/
def ldAt (M : Mem) (x : Int) (k : Nat) : Int := (M.load (IntKind.u64.wrap (x + (k : Int))) 1).getD 0
/-- the bytes from x on -/
def ldb (M : Mem) (x : Int) : Nat → List UInt8
  | 0 => []
  | k + 1 => ldb M x k ++ [UInt8.ofNat (ldAt M x k).toNat]
theorem ldb_length (M : Mem) (x : Int) : ∀ k, (ldb M x k).length = k
  | 0 => rfl
  | k + 1 => by simp [ldb, ldb_length M x k]
theorem ldAt_rg (M : Mem) (x : Int) (k : Nat) : 0 ≤ ldAt M x k ∧ ldAt M x k < 256 := by
  unfold ldAt
  cases e : M.load (IntKind.u64.wrap (x + (k : Int))) 1 with
  | none => simp
  | some v => exact load_rg rfl e

/-- what writing does -/
def PSt.sysWrite (X : PSt) (fd x n : Int) : Int × PSt :=
  if 2147483648 < n then (18446744073709551594, X) else if X.M.there x n = false then (18446744073709551602, X) else
    if writeRes X.S (wrap64 fd) ⟨#[]⟩ < 0 then (IntKind.u64.wrap (writeRes X.S (wrap64 fd) ⟨#[]⟩), { X with S := X.S.write (wrap64 fd) ⟨#[]⟩ }) else
      (IntKind.u64.wrap (writeRes (X.S.write (wrap64 fd) ⟨#[]⟩) (wrap64 fd) (str (ldb X.M x n.toNat))), { X with S := (X.S.write (wrap64 fd) ⟨#[]⟩).write (wrap64 fd) (str (ldb X.M x n.toNat)) })

/-- a row of n bytes of its own, the first of which are l -/
def MR (w1 wr : World) (g n : Nat) (l : List UInt8) : Prop := Tn No w1 wr ∧ w1.heap.size ≤ g ∧ l.length ≤ n ∧ ∃ c, CB wr g n c ∧ ∀ j (hj : j < l.length), c j = .int .u8 (l[j].toNat : Int)

theorem mr_new (w1 : World) (C : Array Value) (t : TypeId) (n : Nat) (hn : C.size = n) : MR w1 (w1.alloc (.cells C t)) w1.heap.size n [] := by
  subst hn
  exact ⟨(Tn.refl No w1).alloc _, Nat.le_refl _, by simp, _, CB.new w1 C t, fun j hj => by cases hj⟩
theorem mr_set {w1 wr : World} {g n k : Nat} {l : List UInt8} (h : MR w1 wr g n l) (hk : l.length = k) (hkn : k < n) (c : UInt8) (v : Int) (hv : v = (c.toNat : Int)) : MR w1 (wr.setCell ⟨g, k, none⟩ (.int .u8 v)) g n (l ++ [c]) := by
  subst hv; subst hk
  obtain ⟨t, hg, _, d, hc, hd⟩ := h
  refine ⟨t.set _ _ (fun e => absurd e (by simpa using Nat.not_lt.2 hg)), hg, by simp; omega, _, hc.set _ hkn _, fun j hj => ?_⟩
  by_cases e : j = l.length
  · subst e; rw [upd_same]; simp
  · have hj2 : j < l.length := by simp at hj; omega
    rw [upd_other _ _ e, hd j hj2, List.getElem_append_left hj2]
theorem mr_cell {w1 wr : World} {g n : Nat} {l : List UInt8} (h : MR w1 wr g n l) (j : Nat) (hj : j < n) : (∃ v, wr.cell? ⟨g, j, none⟩ = some v) ∧ wr.frozen? ⟨g, j, none⟩ = false ∧ g < wr.heap.size := by
  obtain ⟨t, hg, _, d, hc, hd⟩ := h
  exact ⟨⟨_, hc.cell j hj⟩, hc.froz j, hc.lt⟩
theorem mr_br {w1 wr : World} {g n : Nat} {l : List UInt8} (h : MR w1 wr g n l) (hl : l.length = n) (hn : n ≤ maxLen) : BR wr (.slice (some ⟨g, 0, none⟩) n n) l := by
  obtain ⟨t, hg, _, d, hc, hd⟩ := h
  refine ⟨.inr ⟨g, n, by rw [hl], hc.lt, by omega, hn, fun j hj => ⟨?_, hc.froz j⟩⟩, fun j hj => ?_⟩
  · rw [hc.cell j (by omega)]; rfl
  · show wr.cell? ⟨g, j, none⟩ = _
    rw [hc.cell j (by omega), hd j hj]

theorem make_bytes (n : Nat) (hn : n ≤ 2147483648) : ∃ M : Array Value, M.size = n ∧ ∀ W : World, (Instr.makeSlice 23 (.int .u64 (n : Int)) (.int .u64 (n : Int))).run Tryz.prog W = .ok (.slice (some ⟨W.heap.size, 0, none⟩) n n) (W.alloc (.cells M 5)) := by
  obtain ⟨i, hi, z0, z1, z2⟩ := info_parts u8_info
  refine ⟨madeCells (Value.int .u8 0).cells (((n : Nat) : Int).toNat * i.size), by rw [size_madeCells, z1]; simp, fun W => ?_⟩
  have h := run_make (P := Tryz.prog) W 23 5 i (.int .u8 0) Tryz.underlying23 hi z0 .u64 .u64 (n : Int) (n : Int) (by omega) (by omega) (by rw [z2]; omega) (by omega)
  simpa using h

section
variable {p N fb pw : Nat} {R : List RFun} {strict : Bool} {X : PSt} {b cap : Nat} {vd vh : Value} {fc c : Nat → Value} {w : World} {L : Nat → Option Lb} {Lw : Nat → Option Lab} {fs : List Fr} {g : Fr}

theorem PR.writes (h : PR p N fb pw R strict X b cap vd vh fc c w L Lw) (fd : Int) (s : ByteArray) (hw : WF X.S) (h0 : -9223372036854775808 ≤ fd) (h1 : fd ≤ 9223372036854775807) (hN : N + N + 2 * s.size + 2 ≤ 1099511627776) :
    Calls Tryz.prog 163 #[.pointer (some ⟨pw, 0, none⟩), .int .i64 fd, .string s] w fun e w' => e = .returned (.int .i64 (writeRes X.S fd s)) ∧ PQ b cap vd vh p (N + 2 * s.size + 2) fb pw R strict { X with S := X.S.write fd s } w L Lw w' :=
  (write_raw pw Lw N X.S fd s w h.pw hw h0 h1 hN).mono (fun e w' z => ⟨z.1, h.worldQ (by omega) z.2⟩)

/-- what the loop and the second call want -/
theorem PQ.wr {w1 : World} (h : PQ b cap vd vh p N fb pw R strict X w L Lw w1) (hw : WF X.S) (fd x : Int) (n : Nat) (h0 : -9223372036854775808 ≤ fd) (h1 : fd ≤ 9223372036854775807) (hN : N + N + 2 * n + 2 ≤ 1099511627776) :
    (∀ wr, Tn No w1 wr → ∀ k : Nat, Calls Tryz.prog 57 #[.pointer (some ⟨p, 1, none⟩), .int .u64 (IntKind.u64.wrap (x + (k : Int))), .int .i64 1] wr fun e w' => (∃ o, e = .returned (.tuple #[.int .u64 (ldAt X.M x k), .bool o])) ∧ w' = wr) ∧
    (∀ wr, Tn No w1 wr → wr.cell? ⟨p, 9, none⟩ = some (.pointer (some ⟨pw, 0, none⟩)) ∧ p < wr.heap.size) ∧
    ∀ wr, Tn No w1 wr → ∀ s : ByteArray, s.size = n → Calls Tryz.prog 163 #[.pointer (some ⟨pw, 0, none⟩), .int .i64 fd, .string s] wr fun e w' => e = .returned (.int .i64 (writeRes X.S fd s)) ∧ PQ b cap vd vh p (N + 2 * n + 2) fb pw R strict { X with S := X.S.write fd s } w L Lw w' ∧ w'.cell? ⟨p, 9, none⟩ = some (.pointer (some ⟨pw, 0, none⟩)) ∧ ∀ k, w1.heap.size ≤ k → k < wr.heap.size → w'.heap[k]? = wr.heap[k]? := by
  obtain ⟨L1, Lw1, fc1, c1, g1, g2, g3, g4⟩ := h
  refine ⟨fun wr t k => (mload_raw (g1.no t).mb _ 1 (.inl rfl)).mono (fun e w' z => ⟨⟨_, z.1⟩, z.2⟩), fun wr t => ⟨by rw [(g1.no t).ox.bx.pc.cell 9 (by omega), g1.c9], (g1.no t).ox.bx.pc.lt⟩, fun wr t s hs => ?_⟩
  subst hs
  refine ((g1.no t).writes fd s hw h0 h1 hN).mono ?_
  rintro e w' ⟨rfl, hpl⟩
  refine ⟨rfl, hpl.trans (g2.thenNo t) g3 (fun k e => ⟨(t.block k (g1.lt k (by rw [(g4 k e).2]; simp)) (fun e => e)).trans (g4 k e).1, (g4 k e).2⟩), ?_, fun k k1 k2 => ?_⟩
  · obtain ⟨L2, Lw2, fc2, c2, q1, _⟩ := hpl
    rw [q1.ox.bx.pc.cell 9 (by omega), q1.c9]
  · obtain ⟨_, _, _, _, _, tt, _⟩ := hpl
    refine tt.block k k2 ?_
    rintro (q | q)
    · have := g1.lt k q; omega
    · have := g1.pw.lt k q; omega

set_option maxHeartbeats 4000000 in
set_option maxRecDepth 100000 in
theorem sysWrite_raw {K : Nat} (h : PR p N fb pw R strict X b cap vd vh fc c w L Lw) (fd x : Int) (n : Nat) (hw : WF X.S) (hN : N ≤ 545460846592) (hNK : N + 2 ≤ K) (hK : n ≤ 2147483648 → X.M.there x n = true → N + 2 * n + 4 ≤ K) :
    Calls Tryz.prog 150 #[.pointer (some ⟨p, 0, none⟩), .int .u64 fd, .int .u64 x, .int .u64 (n : Int)] w fun e w' => e = .returned (.int .u64 (X.sysWrite fd x n).1) ∧ PQ b cap vd vh p K fb pw R strict (X.sysWrite fd x n).2 w L Lw w' := by
  have plt := h.ox.bx.pc.lt
  have k9 := h.ox.bx.pc.cell 9 (by omega)
  rw [h.c9] at k9
  have HNO : Hid (∀ w0, Tn No w w0 → PQ b cap vd vh p K fb pw R strict X w L Lw w0) := hid (fun w0 t => (h.mono (by omega)).pqNo t)
  by_cases h1 : (2147483648 : Int) < (n : Int)
  · have e : X.sysWrite fd x n = (18446744073709551594, X) := by unfold PSt.sysWrite; rw [if_pos h1]
    rw [e]
    have d1 : decide ((2147483648 : Int) < (n : Int)) = true := decide_eq_true h1
    clear h hw hK
    go_enter Tryz.func150, Tryz.ntmps150
    go_wp2
    go_ret
    exact ⟨rfl, HNO.out w (Tn.refl No w)⟩
  · have d1 : decide ((2147483648 : Int) < (n : Int)) = false := decide_eq_false h1
    have HT := hid (mthere_raw h.mb x n)
    cases h2 : X.M.there x n
    · have e : X.sysWrite fd x n = (18446744073709551602, X) := by unfold PSt.sysWrite; rw [if_neg h1, h2]; rfl
      rw [e]
      rw [h2] at HT
      clear h hw hK
      go_enter Tryz.func150, Tryz.ntmps150
      go_wp2_with (go_at_call 161; refine HT.out.mono ?_; rintro e w' ⟨rfl, rfl⟩)
      go_ret
      exact ⟨rfl, HNO.out _ (Tn.refl No _)⟩
    · rw [h2] at HT
      have hK2 := hK (by omega) h2
      obtain ⟨r0, r1⟩ := wrapi_rg fd
      have HW1 := hid (h.writes (wrap64 fd) ⟨#[]⟩ hw r0 r1 (by show N + N + 2 * 0 + 2 ≤ _; omega))
      have hw1 : WF (X.S.write (wrap64 fd) ⟨#[]⟩) := wf_write hw _ _
      have e : X.sysWrite fd x n = if writeRes X.S (wrap64 fd) ⟨#[]⟩ < 0 then (IntKind.u64.wrap (writeRes X.S (wrap64 fd) ⟨#[]⟩), { X with S := X.S.write (wrap64 fd) ⟨#[]⟩ }) else
          (IntKind.u64.wrap (writeRes (X.S.write (wrap64 fd) ⟨#[]⟩) (wrap64 fd) (str (ldb X.M x n))), { X with S := (X.S.write (wrap64 fd) ⟨#[]⟩).write (wrap64 fd) (str (ldb X.M x n)) }) := by
        unfold PSt.sysWrite; rw [if_neg h1, h2]; simp
      rw [e]
      clear e
      obtain ⟨S', hS⟩ : ∃ S', X.S.write (wrap64 fd) ⟨#[]⟩ = S' := ⟨_, rfl⟩
      obtain ⟨rr, hrr⟩ : ∃ rr, writeRes X.S (wrap64 fd) ⟨#[]⟩ = rr := ⟨_, rfl⟩
      rw [hS, hrr] at HW1
      rw [hS] at hw1
      rw [hS, hrr]
      clear hS hrr
      by_cases hr : rr < 0
      · rw [if_pos hr]
        clear h hw hw1 hK
        go_enter Tryz.func150, Tryz.ntmps150
        go_wp2_with (first
          | (go_at_call 161; refine HT.out.mono ?_; rintro e w' ⟨rfl, rfl⟩)
          | (go_at_call 163; refine HW1.out.mono ?_; rintro e w1 ⟨rfl, hpl⟩; have HP1 := hid hpl; clear hpl))
        go_ret
        exact ⟨rfl, HP1.out.mono (by show N + 2 * 0 + 2 ≤ K; omega)⟩
      · rw [if_neg hr]
        have hn31 : n ≤ 2147483648 := by omega
        obtain ⟨C, hCs, hmk⟩ := make_bytes n hn31
        have HA : Hid (∀ w1, PQ b cap vd vh p (N + 2) fb pw R strict { X with S := S' } w L Lw w1 → _) := hid (fun w1 (z : PQ b cap vd vh p (N + 2) fb pw R strict { X with S := S' } w L Lw w1) => z.wr hw1 (wrap64 fd) x n r0 r1 (by omega))
        have hnm : n ≤ maxLen := by unfold maxLen; omega
        have HL := hid (ldb_length X.M x)
        obtain ⟨l, hll⟩ : ∃ l, ldb X.M x n = l := ⟨_, rfl⟩
        rw [hll]
        have HLL := hid hll
        clear h hw hw1 hK r0 r1 hll
        go_enter Tryz.func150, Tryz.ntmps150
        go_wp2_with (first
          | (go_at_call 161; refine HT.out.mono ?_; rintro e w' ⟨rfl, rfl⟩)
          | (go_at_call 163; refine HW1.out.mono ?_; rintro e w1 ⟨rfl, hpl⟩; have HB := hid (HA.out w1 hpl); have HM := hid (mr_new w1 C 5 n hCs); clear hpl HA))
        obtain ⟨hb1, hb2, hb3⟩ := HB.out
        have HB1 := hid hb1
        have HB2 := hid hb2
        have HB3 := hid hb3
        clear hb1 hb2 hb3 HB
        go_loopw [11, 12, 13, 40] (fun _ _ _ i wr => ∃ k : Nat, k ≤ n ∧ i = .int .i64 (k : Int) ∧ MR w1 wr w1.heap.size n (ldb X.M x k)) (fun _ _ _ i _ => n - (intOf i).toNat)
        case atStart => exact ⟨0, by omega, rfl, HM.out⟩
        case round =>
          obtain ⟨k, hk, rfl, hmr⟩ := hrel
          clear HM
          have t0 := hmr.1
          by_cases hlt : k < n
          · have HLD := hid (HB1.out wr t0 k)
            obtain ⟨⟨v0, hc0⟩, hf0, hg1⟩ := mr_cell hmr k hlt
            obtain ⟨q0, q1⟩ := ldAt_rg X.M x k
            have hki : (k : Int) < (n : Int) := by omega
            have hk0 : (0 : Int) ≤ (k : Int) := by omega
            have hwk := wrapu_small (k : Int) (by omega) (by omega)
            have hb8 : IntKind.u8.wrap (ldAt X.M x k) = (((UInt8.ofNat (ldAt X.M x k).toNat).toNat : Nat) : Int) := by
              rw [IntKind.wrap_u8']
              have : (UInt8.ofNat (ldAt X.M x k).toNat).toNat = (ldAt X.M x k).toNat % 256 := by simp
              rw [this]; omega
            obtain ⟨c8, hc8⟩ : ∃ c8 : Int, (((UInt8.ofNat (ldAt X.M x k).toNat).toNat : Nat) : Int) = c8 := ⟨_, rfl⟩
            rw [hc8] at hb8
            have HMR : Hid (MR w1 (wr.setCell ⟨w1.heap.size, k, none⟩ (.int .u8 c8)) w1.heap.size n (ldb X.M x (k + 1))) := hid (mr_set hmr (HL.out k) hlt (UInt8.ofNat (ldAt X.M x k).toNat) c8 hc8.symm)
            obtain ⟨la, hla⟩ : ∃ la, ldAt X.M x k = la := ⟨_, rfl⟩
            rw [hla] at hb8 HLD
            clear hmr hc8 HB1 HB2 HB3 HL hla q0 q1
            go_wp2_with (go_at_call 57; refine HLD.out.mono ?_; rintro e w2 ⟨⟨o2, rfl⟩, rfl⟩)
            exact ⟨⟨k + 1, by omega, by go_num, HMR.out⟩, by simp [intOf]; omega⟩
          · obtain rfl : k = n := by omega
            have hl := HL.out k
            have hbr := mr_br hmr hl hnm
            rw [HLL.out] at hbr hl hmr
            obtain ⟨k9r, plr⟩ := HB2.out wr t0
            have hsl : (str l).size = k := by rw [str_size, hl]
            have hgg : w1.heap.size ≤ w1.heap.size := hmr.2.1
            have hcv : ∀ q, (convert 23 9 (.slice (some ⟨w1.heap.size, 0, none⟩) k k)).run Tryz.prog (wr.drewN q) = .ok (.string (str l)) (wr.drewN q) := fun q => br_string (w := wr.drewN q) (hbr.no ((Tn.refl No wr).drewN q))
            have hcv1 : (convert 23 9 (.slice (some ⟨w1.heap.size, 0, none⟩) k k)).run Tryz.prog wr.drew = .ok (.string (str l)) wr.drew := hcv 1
            have HOO : Hid (∀ wq, Tn No wr wq → Calls Tryz.prog 163 #[.pointer (some ⟨pw, 0, none⟩), .int .i64 (wrap64 fd), .string (str l)] wq fun e wz => e = .returned (.int .i64 (writeRes S' (wrap64 fd) (str l))) ∧ PQ b cap vd vh p K fb pw R strict { X with S := S'.write (wrap64 fd) (str l) } w' L Lw wz ∧ wz.cell? ⟨p, 9, none⟩ = some (.pointer (some ⟨pw, 0, none⟩)) ∧ (convert 23 9 (.slice (some ⟨w1.heap.size, 0, none⟩) k k)).run Tryz.prog wz = .ok (.string (str l)) wz) := hid (fun wq t => (HB3.out wq (t0.then t) (str l) hsl).mono (fun e wz z => ⟨z.1, z.2.1.mono (by omega), z.2.2.1, br_string ((hbr.no t).kept (fun g' e => z.2.2.2 g' (by cases e; exact hgg) ((hbr.no t).lt g' e)))⟩))
            obtain ⟨rz, hrz⟩ : ∃ rz, writeRes S' (wrap64 fd) (str l) = rz := ⟨_, rfl⟩
            obtain ⟨Sz, hSz⟩ : ∃ Sz, S'.write (wrap64 fd) (str l) = Sz := ⟨_, rfl⟩
            rw [hrz, hSz] at HOO
            rw [← wrapi_eq fd] at HOO
            have HZ := hid hrz
            have HZ2 := hid hSz
            clear HB1 HB2 HB3 HL HLL hmr hbr hcv hl hsl hgg hrz hSz
            go_wp2_with fail
            go_region_held3 (fun w' => w'.cell? ⟨p, 9, none⟩ = some (.pointer (some ⟨pw, 0, none⟩)) ∧ (convert 23 9 (.slice (some ⟨w1.heap.size, 0, none⟩) k k)).run Tryz.prog w' = .ok (.string (str l)) w') (go_keep) (first
              | (go_at_call 163; refine (HOO.out _ (by repeat (first | exact Tn.refl _ _ | apply Tn.drew | apply Tn.drewN | apply Tn.alloc | (refine Tn.then ?_ (by assumption)) | (refine Tn.thenNo ?_ (by assumption))))).mono ?_; rintro e w2 ⟨rfl, hpl2, k92, hc2⟩; have HP2 := hid hpl2; clear hpl2))
            go_wp2
            go_ret
            exact ⟨by rw [HZ.out]; rfl, by rw [HZ2.out]; exact HP2.out⟩
end
end Go.Proofs.YtoidddfpekbliaaGreat
namespace Go.Proofs.YtoidddfpekbliaaGreat
set_option linter.unusedSimpArgs false
set_option linter.unusedVariables false
open Go.RowKit
attribute [local go_sem ↓] Go.wp_at_zero Go.wp_at_succ

/-- what a system call does -/
def PSt.system (X : PSt) (nr x y z : Int) : Int × Bool × PSt :=
  if nr = 0 then ((X.sysRead x y z).1, true, (X.sysRead x y z).2)
  else if nr = 1 then ((X.sysWrite x y z).1, true, (X.sysWrite x y z).2)
  else if nr = 2 then ((X.sysOpen x y).1, true, (X.sysOpen x y).2)
  else if nr = 3 then (IntKind.u64.wrap (closeRes X.S (wrap64 x)), true, { X with S := X.S.close (wrap64 x) })
  else if nr = 60 then (0, true, X.exit x)
  else (0, false, X)

section
variable {p N fb pw : Nat} {R : List RFun} {strict : Bool} {X : PSt} {b cap : Nat} {vd vh : Value} {fc c : Nat → Value} {w : World} {L : Nat → Option Lb} {Lw : Nat → Option Lab} {fs : List Fr} {g : Fr}

theorem PR.closes (h : PR p N fb pw R strict X b cap vd vh fc c w L Lw) (fd : Int) (h0 : -9223372036854775808 ≤ fd) (h1 : fd ≤ 9223372036854775807) :
    Calls Tryz.prog 152 #[.pointer (some ⟨pw, 0, none⟩), .int .i64 fd] w fun e w' => e = .returned (.int .i64 (closeRes X.S fd)) ∧ PQ b cap vd vh p N fb pw R strict { X with S := X.S.close fd } w L Lw w' :=
  (close_raw pw Lw N X.S fd w h.pw h0 h1).mono (fun e w' z => ⟨z.1, h.worldQ (Nat.le_refl N) z.2⟩)

set_option maxHeartbeats 4000000 in
set_option maxRecDepth 100000 in
theorem system_raw {K : Nat} (h : PR p N fb pw R strict X b cap vd vh fc c w L Lw) (nr x y : Int) (n : Nat) (hw : WF X.S) (hN : N ≤ 545460846592) (hx : 0 ≤ x ∧ x ≤ 18446744073709551615) (hn : n ≤ 18446744073709551615) (hNK : N + 2 ≤ K) (hK : n ≤ 2147483648 → X.M.there y n = true → N + 2 * n + 4 ≤ K) :
    Calls Tryz.prog 128 #[.pointer (some ⟨p, 0, none⟩), .int .u64 nr, .int .u64 x, .int .u64 y, .int .u64 (n : Int)] w fun e w' => e = .returned (.tuple #[.int .u64 (X.system nr x y n).1, .bool (X.system nr x y n).2.1]) ∧ PQ b cap vd vh p K fb pw R strict (X.system nr x y n).2.2 w L Lw w' := by
  have plt := h.ox.bx.pc.lt
  have k9 := h.ox.bx.pc.cell 9 (by omega)
  rw [h.c9] at k9
  by_cases e0 : nr = 0
  · subst e0
    have e : X.system 0 x y n = ((X.sysRead x y n).1, true, (X.sysRead x y n).2) := by unfold PSt.system; rw [if_pos rfl]
    rw [e]
    have HC := hid (sysRead_raw (K := K) h x y n (by omega) hn (by omega) (fun a b => by have := hK a b; omega))
    clear h hw hK e
    go_enter Tryz.func128, Tryz.ntmps128
    go_wp2_with (go_at_call 149; refine HC.out.mono ?_; rintro e w1 ⟨rfl, hpl⟩)
    go_ret2
    exact ⟨rfl, hpl⟩
  by_cases e1 : nr = 1
  · subst e1
    have e : X.system 1 x y n = ((X.sysWrite x y n).1, true, (X.sysWrite x y n).2) := by unfold PSt.system; rw [if_neg (by decide), if_pos rfl]
    rw [e]
    have HC := hid (sysWrite_raw (K := K) h x y n hw hN hNK hK)
    clear h hw hK e
    go_enter Tryz.func128, Tryz.ntmps128
    go_wp2_with (go_at_call 150; refine HC.out.mono ?_; rintro e w1 ⟨rfl, hpl⟩)
    go_ret2
    exact ⟨rfl, hpl⟩
  by_cases e2 : nr = 2
  · subst e2
    have e : X.system 2 x y n = ((X.sysOpen x y).1, true, (X.sysOpen x y).2) := by unfold PSt.system; rw [if_neg (by decide), if_neg (by decide), if_pos rfl]
    rw [e]
    have HC := hid (sysOpen_raw h x y (by omega))
    clear h hw hK e
    go_enter Tryz.func128, Tryz.ntmps128
    go_wp2_with (go_at_call 151; refine HC.out.mono ?_; rintro e w1 ⟨rfl, hpl⟩)
    go_ret2
    exact ⟨rfl, hpl.mono (by omega)⟩
  by_cases e3 : nr = 3
  · subst e3
    have e : X.system 3 x y n = (IntKind.u64.wrap (closeRes X.S (wrap64 x)), true, { X with S := X.S.close (wrap64 x) }) := by unfold PSt.system; rw [if_neg (by decide), if_neg (by decide), if_neg (by decide), if_pos rfl]
    rw [e]
    obtain ⟨r0, r1⟩ := wrapi_rg x
    have HC := hid (h.closes (wrap64 x) r0 r1)
    obtain ⟨rr, hrr⟩ : ∃ rr, closeRes X.S (wrap64 x) = rr := ⟨_, rfl⟩
    obtain ⟨S', hS'⟩ : ∃ S', X.S.close (wrap64 x) = S' := ⟨_, rfl⟩
    rw [hrr, hS'] at HC
    rw [hrr, hS']
    clear h hw hK e hrr hS' r0 r1
    go_enter Tryz.func128, Tryz.ntmps128
    go_wp2_with (go_at_call 152; refine HC.out.mono ?_; rintro e w1 ⟨rfl, hpl⟩)
    go_ret2
    exact ⟨rfl, hpl.mono (by omega)⟩
  by_cases e60 : nr = 60
  · subst e60
    have e : X.system 60 x y n = (0, true, X.exit x) := by unfold PSt.system; rw [if_neg (by decide), if_neg (by decide), if_neg (by decide), if_neg (by decide), if_pos rfl]
    rw [e]
    have HC := hid (exit_q h x hx)
    clear h hw hK e
    go_enter Tryz.func128, Tryz.ntmps128
    go_wp2_with (go_at_call 122; refine HC.out.mono ?_; rintro e w1 ⟨rfl, hpl⟩)
    go_ret2
    exact ⟨rfl, hpl.mono (by omega)⟩
  · have e : X.system nr x y n = (0, false, X) := by unfold PSt.system; rw [if_neg e0, if_neg e1, if_neg e2, if_neg e3, if_neg e60]
    rw [e]
    have HC : Hid (PQ b cap vd vh p K fb pw R strict X w L Lw w) := hid ((h.mono (by omega)).pqNo (Tn.refl No w))
    have d0 : (nr == 0) = false := by simpa using e0
    have d1 : (nr == 1) = false := by simpa using e1
    have d2 : (nr == 2) = false := by simpa using e2
    have d3 : (nr == 3) = false := by simpa using e3
    have d6 : (nr == 60) = false := by simpa using e60
    clear h hw hK e
    go_enter Tryz.func128, Tryz.ntmps128
    go_wp2
    go_ret2
    exact ⟨rfl, HC.out⟩
end
end Go.Proofs.YtoidddfpekbliaaGreat
namespace Go.Proofs.YtoidddfpekbliaaGreat
set_option linter.unusedSimpArgs false
set_option linter.unusedVariables false
open Go.RowKit
attribute [local go_sem ↓] Go.wp_at_zero Go.wp_at_succ

/-- an instruction, and what it has read -/
structure VI (w : World) (cb o xb : Nat) (q : RCode) (xs : Nat → Int) : Prop where
  cl : cb < w.heap.size
  q : CodeAt w cb o q
  xl : xb < w.heap.size
  x : ∀ i, i < 5 → w.cell? ⟨xb, i, none⟩ = some (.int .u64 (xs i))
theorem VI.no {w w' : World} {cb o xb : Nat} {q : RCode} {xs : Nat → Int} (h : VI w cb o xb q xs) (t : Tn No w w') : VI w' cb o xb q xs :=
  ⟨Nat.lt_of_lt_of_le h.cl t.size, h.q.kept (t.block _ h.cl (fun e => e)), Nat.lt_of_lt_of_le h.xl t.size, fun i hi => by rw [t.cell h.xl (fun e => e)]; exact h.x i hi⟩

section
variable {p : Nat} {w : World} {cb o xb : Nat} {q : RCode} {xs : Nat → Int} {vf : Value}

set_option maxHeartbeats 2000000 in
set_option maxRecDepth 100000 in
theorem value_const (h : VI w cb o xb q xs) (hk : q.kind = 1) :
    Calls Tryz.prog 83 #[.pointer (some ⟨p, 0, none⟩), vf, .pointer (some ⟨cb, o, none⟩), .pointer (some ⟨xb, 0, none⟩)] w fun e w' => e = .returned (.tuple #[.int .u64 q.imm, .bool true]) ∧ w' = w := by
  have cl := h.cl
  have k0 := h.q.k0
  have k5 := h.q.k5
  rw [hk] at k0
  clear h
  go_enter Tryz.func83, Tryz.ntmps83
  go_wp2
  go_ret2
  exact ⟨rfl, rfl⟩

set_option maxHeartbeats 2000000 in
set_option maxRecDepth 100000 in
theorem value_move (h : VI w cb o xb q xs) (hk : q.kind = 2) :
    Calls Tryz.prog 83 #[.pointer (some ⟨p, 0, none⟩), vf, .pointer (some ⟨cb, o, none⟩), .pointer (some ⟨xb, 0, none⟩)] w fun e w' => e = .returned (.tuple #[.int .u64 (xs 0), .bool true]) ∧ w' = w := by
  have cl := h.cl
  have xl := h.xl
  have k0 := h.q.k0
  have x0 := h.x 0 (by omega)
  rw [hk] at k0
  clear h
  go_enter Tryz.func83, Tryz.ntmps83
  go_wp2
  go_ret2
  exact ⟨rfl, rfl⟩

set_option maxHeartbeats 2000000 in
set_option maxRecDepth 100000 in
theorem value_data (h : VI w cb o xb q xs) (hk : q.kind = 27) :
    Calls Tryz.prog 83 #[.pointer (some ⟨p, 0, none⟩), vf, .pointer (some ⟨cb, o, none⟩), .pointer (some ⟨xb, 0, none⟩)] w fun e w' => e = .returned (.tuple #[.int .u64 (IntKind.u64.wrap (268435456 + q.imm)), .bool true]) ∧ w' = w := by
  have cl := h.cl
  have k0 := h.q.k0
  have k5 := h.q.k5
  rw [hk] at k0
  clear h
  go_enter Tryz.func83, Tryz.ntmps83
  go_wp2
  go_ret2
  exact ⟨rfl, rfl⟩
end
end Go.Proofs.YtoidddfpekbliaaGreat
namespace Go.Proofs.YtoidddfpekbliaaGreat
set_option linter.unusedSimpArgs false
set_option linter.unusedVariables false
open Go.RowKit
attribute [local go_sem ↓] Go.wp_at_zero Go.wp_at_succ

noncomputable def holdsF (c a b : Int) : Bool := (holds_ex c a b).choose
theorem holdsF_raw (c a b : Int) (w : World) : Calls Tryz.prog 79 #[.int .i64 c, .int .u64 a, .int .u64 b] w fun e w' => e = .returned (.bool (holdsF c a b)) ∧ w' = w := (holds_ex c a b).choose_spec w
noncomputable def realF (k x y : Int) : Int := (ofReals_ex k x y).choose
theorem realF_raw (k x y : Int) (w : World) : Calls Tryz.prog 126 #[.int .i64 k, .int .u64 x, .int .u64 y] w fun e w' => e = .returned (.int .u64 (realF k x y)) ∧ Tn No w w' :=
  (((ofReals_ex k x y).choose_spec).choose_spec.2 w).mono (fun e w' z => ⟨z.1, by rw [z.2]; exact (Tn.refl No w).drewN _⟩)
noncomputable def addrF (f : Int) : Int := (address_ex f).choose
theorem addrF_raw (f : Int) (w : World) : Calls Tryz.prog 127 #[.int .i64 f] w fun e w' => e = .returned (.int .u64 (addrF f)) ∧ w' = w := (address_ex f).choose_spec.2 w
theorem addrF_ok (f : Int) : U64 (addrF f) := (address_ex f).choose_spec.1
theorem realF_ok (k x y : Int) : U64 (realF k x y) := ((ofReals_ex k x y).choose_spec).choose_spec.1

section
variable {p : Nat} {w : World} {cb o xb : Nat} {q : RCode} {xs : Nat → Int} {vf : Value}

theorem u8_i64 (n : Nat) (h : n ≤ 255) : IntKind.i64.wrap (n : Int) = (n : Int) ∧ wrap64 (n : Int) = (n : Int) := by
  have : wrap64 (n : Int) = (n : Int) := by unfold wrap64; omega
  exact ⟨by rw [wrapi_eq]; exact this, this⟩

set_option maxHeartbeats 4000000 in
set_option maxRecDepth 100000 in
theorem value_set (h : VI w cb o xb q xs) (hk : q.kind = 15) (hh : q.how ≤ 255) :
    Calls Tryz.prog 83 #[.pointer (some ⟨p, 0, none⟩), vf, .pointer (some ⟨cb, o, none⟩), .pointer (some ⟨xb, 0, none⟩)] w fun e w' => e = .returned (.tuple #[.int .u64 (cond (holdsF q.how (xs 0) (xs 1)) 1 0), .bool true]) ∧ Tn No w w' := by
  have cl := h.cl
  have xl := h.xl
  have k0 := h.q.k0
  have k1 := h.q.k1
  have x0 := h.x 0 (by omega)
  have x1 := h.x 1 (by omega)
  rw [hk] at k0
  obtain ⟨e1, e2⟩ := u8_i64 q.how hh
  have HH := hid (holdsF_raw q.how (xs 0) (xs 1))
  obtain ⟨v, hv⟩ : ∃ v, holdsF q.how (xs 0) (xs 1) = v := ⟨_, rfl⟩
  rw [hv] at HH
  rw [hv]
  have HO := hid (one_raw v)
  obtain ⟨u, hu⟩ : ∃ u : Int, cond v 1 0 = u := ⟨_, rfl⟩
  rw [hu] at HO
  rw [hu]
  obtain ⟨a, ha⟩ : ∃ a, xs 0 = a := ⟨_, rfl⟩
  obtain ⟨b, hb⟩ : ∃ b, xs 1 = b := ⟨_, rfl⟩
  rw [ha] at HH x0
  rw [hb] at HH x1
  obtain ⟨hw, hhw⟩ : ∃ hw : Int, (q.how : Int) = hw := ⟨_, rfl⟩
  rw [hhw] at HH k1 e1 e2
  clear h hu hv hh hk ha hb hhw
  go_enter Tryz.func83, Tryz.ntmps83
  go_wp2_with fail
  go_region_held3 (fun w' => w'.cell? ⟨cb, o + 1, none⟩ = some (.int .u8 hw) ∧ w'.cell? ⟨xb, 0, none⟩ = some (.int .u64 a) ∧ w'.cell? ⟨xb, 1, none⟩ = some (.int .u64 b)) (go_keep) (first
    | (go_at_call 79; refine (HH.out _).mono ?_; rintro e w2 ⟨rfl, rfl⟩)
    | (go_at_call 125; refine (HO.out _).mono ?_; rintro e w2 ⟨rfl, rfl⟩))
  go_wp2
  go_ret2
  exact ⟨rfl, (by repeat (first | exact Tn.refl _ _ | apply Tn.drew | apply Tn.drewN | apply Tn.alloc | (refine Tn.then ?_ (by assumption)) | (refine Tn.thenNo ?_ (by assumption))))⟩
end
end Go.Proofs.YtoidddfpekbliaaGreat
