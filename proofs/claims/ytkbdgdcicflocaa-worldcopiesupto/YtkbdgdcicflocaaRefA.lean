/-
  The reference's world in memory; find.
-/
import Derived.Test.YtkbdgdcicflocaaRef
namespace Go.Proofs.Ytkbdgdcicflocaa
set_option linter.unusedSimpArgs false
set_option linter.unusedVariables false
open Go.RowKit
attribute [local go_sem ↓] Go.wp_at_zero Go.wp_at_succ

/-- the files of the reference: by rising names -/
def fsOf (fl : List (ByteArray × List UInt8)) (x : List UInt8) : Option (List UInt8) := (fl.find? (fun f => decide (f.1.data.toList = x))).map (·.2)

/-- where the descriptors lie, and how much room there is -/
structure Dk where
  blk : Nat
  cap : Nat
instance : CoeOut Dk Nat := ⟨Dk.blk⟩

structure RX (w : World) (q : Nat) (L : Nat → Option Lab) (N : Nat) (S : St) (fl : List (ByteArray × List UInt8)) (d : Dk) (lv tv : Value) (bv : Nat → Value) : Prop where
  qlt : q < w.heap.size
  c0 : w.cell? ⟨q, 0, none⟩ = some lv
  c1 : w.cell? ⟨q, 1, none⟩ = some (.string (str (S.inp.drop S.rd)))
  c2 : w.cell? ⟨q, 2, none⟩ = some (.slice (some ⟨d, 0, none⟩) 19 d.cap)
  c3 : w.cell? ⟨q, 3, none⟩ = some tv
  fz : ∀ i, w.frozen? ⟨q, i, none⟩ = false
  labs : L q = some .st
  labd : L d = some .inp
  dc : ∀ i, i < 19 → w.cell? ⟨d, i * 3, none⟩ = some (.int .i64 (S.ds i).kind) ∧ w.cell? ⟨d, i * 3 + 1, none⟩ = some (.string (S.ds i).name) ∧ w.cell? ⟨d, i * 3 + 2, none⟩ = some (.int .i64 ((S.ds i).place : Int))
  dz : ∀ i, w.frozen? ⟨d, i, none⟩ = false
  pl : ∀ i, i < 19 → (S.ds i).place ≤ N ∧ (S.ds i).name.size ≤ 255
  tr : TV w tv S.tr
  labt : ∀ g, tv.ownBlock = some g → L g = some .tr
  tlen : S.tr.length ≤ N ∧ ∀ e ∈ S.tr, e.text.length ≤ N
  row : RW w 2 lv fl.length
  labl : ∀ g, lv.ownBlock = some g → L g = some .mp
  lc : ∀ i (h : i < fl.length), vc w lv (2 * i) = some (.string fl[i].1) ∧ vc w lv (2 * i + 1) = some (bv i) ∧ BR w (bv i) fl[i].2 ∧ (∀ g, (bv i).ownBlock = some g → L g = some (.fl fl[i].1.data.toList)) ∧ fl[i].2.length ≤ N ∧ fl[i].1.size ≤ 255
  len : fl.length ≤ N
  lt : ∀ k, L k ≠ none → k < w.heap.size
  fs : S.fs = fsOf fl
  up : fl.Pairwise (fun a b => a.1.data.toList < b.1.data.toList)
  rd : S.rd ≤ S.inp.length

theorem RX.kept {w w' : World} {q : Nat} {L : Nat → Option Lab} {N : Nat} {S : St} {fl : List (ByteArray × List UInt8)} {d : Dk} {lv tv : Value} {bv : Nat → Value} (h : RX w q L N S fl d lv tv bv) (hs : w.heap.size ≤ w'.heap.size) (hk : ∀ k, L k ≠ none → w'.heap[k]? = w.heap[k]?) : RX w' q L N S fl d lv tv bv := by
  have hq := hk q (by rw [h.labs]; simp)
  have hd := hk d (by rw [h.labd]; simp)
  have cq : ∀ i, w'.cell? ⟨q, i, none⟩ = w.cell? ⟨q, i, none⟩ := fun i => World.cell?_of_block (w := w) (a := ⟨q, i, none⟩) hq
  have cd : ∀ i, w'.cell? ⟨d, i, none⟩ = w.cell? ⟨d, i, none⟩ := fun i => World.cell?_of_block (w := w) (a := ⟨d, i, none⟩) hd
  have hl : ∀ g, lv.ownBlock = some g → w'.heap[g]? = w.heap[g]? := fun g hg => hk g (by rw [h.labl g hg]; simp)
  refine { h with qlt := Nat.lt_of_lt_of_le h.qlt hs, c0 := (cq 0).trans h.c0, c1 := (cq 1).trans h.c1, c2 := (cq 2).trans h.c2, c3 := (cq 3).trans h.c3, fz := fun i => ?_, dc := fun i hi => ?_, dz := fun i => ?_, tr := h.tr.kept (fun g hg => hk g (by rw [h.labt g hg]; simp)), row := h.row.kept hl, lc := fun i hi => ?_, lt := fun k hk' => Nat.lt_of_lt_of_le (h.lt k hk') hs }
  · have := h.fz i
    simp only [World.frozen?, hq] at this ⊢
    exact this
  · obtain ⟨a, b, c⟩ := h.dc i hi
    exact ⟨(cd _).trans a, (cd _).trans b, (cd _).trans c⟩
  · have := h.dz i
    simp only [World.frozen?, hd] at this ⊢
    exact this
  · obtain ⟨a, b, c, e, f, g⟩ := h.lc i hi
    exact ⟨(vc_kept hl _).trans a, (vc_kept hl _).trans b, c.kept (fun g hg => hk g (by rw [e g hg]; simp)), e, f, g⟩

/-- where a file is -/
def findAt (fl : List (ByteArray × List UInt8)) (nm : ByteArray) : Int := match fl.findIdx? (fun f => decide (f.1 = nm)) with | some i => (i : Int) | none => -1

set_option maxHeartbeats 2000000 in
set_option maxRecDepth 100000 in
theorem find_raw (w : World) (q : Nat) (L : Nat → Option Lab) (N : Nat) (S : St) (fl : List (ByteArray × List UInt8)) (d : Dk) (lv tv : Value) (bv : Nat → Value) (h : RX w q L N S fl d lv tv bv) (nm : ByteArray) (hN : N ≤ 1099511627776) :
    Calls Try.prog 30 #[.pointer (some ⟨q, 0, none⟩), .string nm] w fun e w' => e = .returned (.int .i64 (findAt fl nm)) ∧ w' = w := by
  obtain ⟨a, cap, rfl, hlc, hcm, hnil, hsome⟩ := h.row.form
  have k0 := h.c0
  have hlen := h.len
  obtain ⟨n, hn⟩ : ∃ n, fl.length = n := ⟨_, rfl⟩
  rw [hn] at k0 hlc hnil hlen
  have HX := hid h
  have HN := hid hn
  have HNIL := hid hnil
  have HSOME := hid hsome
  clear h hn hnil hsome
  go_enter Try.func30, Try.ntmps30
  go_wp2
  go_loop [5] (fun i => ∃ k : Nat, k ≤ n ∧ i = .int .i64 (k : Int) ∧ Hid (∀ j (hj : j < fl.length), j < k → ¬ fl[j].1 = nm)) (fun i => n - (intOf i).toNat)
  case atStart => exact ⟨0, by omega, rfl, hid (fun j _ h => by omega)⟩
  case round =>
    obtain ⟨k, hk, rfl, HP⟩ := hrel
    by_cases hlt : k < n
    · cases a with
      | none => have := (HNIL.out rfl).1; omega
      | some x =>
      obtain ⟨hxe, hxl⟩ := HSOME.out x rfl
      obtain ⟨g, o, sp⟩ := x
      cases hxe
      have hkl : k < fl.length := by rw [HN.out]; exact hlt
      have e0 := (HX.out.lc k hkl).1
      rw [Nat.mul_comm 2 k] at e0
      obtain ⟨f, hf⟩ : ∃ f, (fl[k]'hkl).1 = f := ⟨_, rfl⟩
      rw [hf] at e0
      have q0 : w.cell? ⟨g, k * 2, none⟩ = some (.string f) := e0
      have hki : (k : Int) < (n : Int) := by omega
      have HF := hid hf
      clear e0 hf
      by_cases he : f = nm
      · have hd1 : (f.toList == nm.toList) = true := by rw [he]; exact beq_self_eq_true _
        have hfa : findAt fl nm = (k : Int) := by
          have : fl.findIdx? (fun f => decide (f.1 = nm)) = some k := by
            rw [List.findIdx?_eq_some_iff_getElem]
            exact ⟨hkl, by rw [HF.out, he]; simp, fun j hj => by simpa using HP.out j (by omega) hj⟩
          unfold findAt
          rw [this]
        have HFA := hid hfa
        clear hfa he HX HNIL HSOME
        go_wp2
        go_ret
        exact ⟨ret_int HFA.out.symm, rfl⟩
      · have hd1 : (f.toList == nm.toList) = false := by
          rw [beq_eq_false_iff_ne]
          intro h
          apply he
          rw [ByteArray.toList_eq, ByteArray.toList_eq] at h
          cases f; cases nm
          simpa using h
        have HNE := hid he
        clear he HX HNIL HSOME
        go_wp2
        go_round
        case rel => exact ⟨k + 1, by omega, by go_num, hid (fun j hj h => by
          by_cases e : j = k
          · subst e; rw [HF.out]; exact HNE.out
          · exact HP.out j hj (by omega))⟩
        case measure => simp [intOf]; omega
    · obtain rfl : k = n := by omega
      have hfa : findAt fl nm = -1 := by
        have : fl.findIdx? (fun f => decide (f.1 = nm)) = none := by
          rw [List.findIdx?_eq_none_iff]
          intro x hx
          obtain ⟨j, hj, e⟩ := List.mem_iff_getElem.1 hx
          rw [← e]
          simpa using HP.out j hj (by rw [HN.out] at hj; exact hj)
        unfold findAt
        rw [this]
      have HFA := hid hfa
      clear hfa HX HNIL HSOME
      go_wp2
      go_ret
      exact ⟨ret_int HFA.out.symm, rfl⟩
end Go.Proofs.Ytkbdgdcicflocaa
namespace Go.Proofs.Ytkbdgdcicflocaa
set_option linter.unusedSimpArgs false
set_option linter.unusedVariables false
open Go.RowKit
attribute [local go_sem ↓] Go.wp_at_zero Go.wp_at_succ

/-- At block q lies the reference's world S. -/
def PR (w : World) (q : Nat) (L : Nat → Option Lab) (N : Nat) (S : St) : Prop := ∃ fl d lv tv bv, RX w q L N S fl d lv tv bv
/-- what is left behind a call on it -/
def RLft (w : World) (q : Nat) (L : Nat → Option Lab) (w' : World) (N' : Nat) (S' : St) : Prop :=
  ∃ L', PR w' q L' N' S' ∧ Tn (fun k => L k ≠ none) w w' ∧ ∀ k, k < w.heap.size → L k = none → L' k = none

theorem RX.no {w w' : World} {q : Nat} {L : Nat → Option Lab} {N : Nat} {S : St} {fl : List (ByteArray × List UInt8)} {d : Dk} {lv tv : Value} {bv : Nat → Value} (h : RX w q L N S fl d lv tv bv) (t : Tn No w w') : RX w' q L N S fl d lv tv bv := h.kept t.size (fun k hk => t.block k (h.lt k hk) (fun e => e))
theorem PR.no {w w' : World} {q : Nat} {L : Nat → Option Lab} {N : Nat} {S : St} (h : PR w q L N S) (t : Tn No w w') : PR w' q L N S := by
  obtain ⟨fl, d, lv, tv, bv, hx⟩ := h
  exact ⟨fl, d, lv, tv, bv, hx.no t⟩
theorem RX.dlt {w : World} {q : Nat} {L : Nat → Option Lab} {N : Nat} {S : St} {fl : List (ByteArray × List UInt8)} {d : Dk} {lv tv : Value} {bv : Nat → Value} (h : RX w q L N S fl d lv tv bv) : d < w.heap.size := h.lt d (by rw [h.labd]; simp)

set_option maxHeartbeats 1000000 in
set_option maxRecDepth 100000 in
theorem kind_raw (w : World) (q : Nat) (L : Nat → Option Lab) (N : Nat) (S : St) (h : PR w q L N S) (fd : Int) (h0 : -9223372036854775808 ≤ fd) (h1 : fd ≤ 9223372036854775807) :
    Calls Try.prog 59 #[.pointer (some ⟨q, 0, none⟩), .int .i64 fd] w fun e w' => e = .returned (.int .i64 (S.at fd).kind) ∧ w' = w := by
  obtain ⟨fl, d, lv, tv, bv, h⟩ := h
  have k2 := h.c2
  by_cases hr : 0 ≤ fd ∧ fd < 19
  · obtain ⟨i, rfl⟩ : ∃ i : Nat, fd = (i : Int) := ⟨fd.toNat, by omega⟩
    have hi : i < 19 := by omega
    have q0 := (h.dc i hi).1
    have ha : (S.at (i : Int)).kind = (S.ds i).kind := by unfold St.at; rw [if_pos hr, Int.toNat_natCast]
    rw [ha]
    obtain ⟨kk, hkk⟩ : ∃ kk, (S.ds i).kind = kk := ⟨_, rfl⟩
    rw [hkk] at q0 ⊢
    have hi2 : (i : Int) < 19 := by omega
    have hdl := h.dlt
    clear h hr ha hkk
    go_enter Try.func59, Try.ntmps59
    go_wp2
    all_goals go_ret
    all_goals exact ⟨rfl, rfl⟩
  · have ha : (S.at fd).kind = 0 := by unfold St.at; rw [if_neg hr]; rfl
    rw [ha]
    clear h ha k2
    have hr' : fd < 0 ∨ 19 ≤ fd := by omega
    rcases hr' with hr' | hr'
    · clear hr
      go_enter Try.func59, Try.ntmps59
      go_wp2
      all_goals go_ret
      all_goals exact ⟨rfl, rfl⟩
    · have h00 : 0 ≤ fd := by omega
      clear hr
      go_enter Try.func59, Try.ntmps59
      go_wp2
      all_goals go_ret
      all_goals exact ⟨rfl, rfl⟩

/-- three cells of a descriptor are written -/
def rset3 (w : World) (d i : Nat) (e : De) : World := ((w.setCell ⟨d, i * 3, none⟩ (.int .i64 e.kind)).setCell ⟨d, i * 3 + 1, none⟩ (.string e.name)).setCell ⟨d, i * 3 + 2, none⟩ (.int .i64 (e.place : Int))

theorem RX.store {w w' : World} {q : Nat} {L : Nat → Option Lab} {N : Nat} {S : St} {fl : List (ByteArray × List UInt8)} {d : Dk} {lv tv : Value} {bv : Nat → Value} (h : RX w q L N S fl d lv tv bv) (hs : w'.heap.size = w.heap.size) (hk : ∀ k : Nat, k ≠ d → w'.heap[k]? = w.heap[k]?) (hz : ∀ i, w'.frozen? ⟨d, i, none⟩ = false) (ds : Nat → De)
    (hc : ∀ i, i < 19 → w'.cell? ⟨d, i * 3, none⟩ = some (.int .i64 (ds i).kind) ∧ w'.cell? ⟨d, i * 3 + 1, none⟩ = some (.string (ds i).name) ∧ w'.cell? ⟨d, i * 3 + 2, none⟩ = some (.int .i64 ((ds i).place : Int))) (hp : ∀ i, i < 19 → (ds i).place ≤ N ∧ (ds i).name.size ≤ 255) : RX w' q L N { S with ds := ds } fl d lv tv bv := by
  have ne : ∀ k x, L k = some x → x ≠ .inp → k ≠ d := fun k x e1 e2 e3 => by rw [e3, h.labd] at e1; cases e1; exact e2 rfl
  have hq := hk q (ne q _ h.labs (by simp))
  have cq : ∀ i, w'.cell? ⟨q, i, none⟩ = w.cell? ⟨q, i, none⟩ := fun i => World.cell?_of_block (w := w) (a := ⟨q, i, none⟩) hq
  have hl : ∀ g, lv.ownBlock = some g → w'.heap[g]? = w.heap[g]? := fun g hg => hk g (ne g _ (h.labl g hg) (by simp))
  refine { h with qlt := by rw [hs]; exact h.qlt, c0 := (cq 0).trans h.c0, c1 := (cq 1).trans h.c1, c2 := (cq 2).trans h.c2, c3 := (cq 3).trans h.c3, fz := fun i => ?_, dc := hc, dz := hz, pl := hp, tr := h.tr.kept (fun g hg => hk g (ne g _ (h.labt g hg) (by simp))), row := h.row.kept hl, lc := fun i hi => ?_, lt := fun k hk' => by rw [hs]; exact h.lt k hk' }
  · have := h.fz i
    simp only [World.frozen?, hq] at this ⊢
    exact this
  · obtain ⟨a, b, c, e, f, g⟩ := h.lc i hi
    exact ⟨(vc_kept hl _).trans a, (vc_kept hl _).trans b, c.kept (fun g hg => hk g (ne g _ (e g hg) (by simp))), e, f, g⟩

theorem RX.setDe {w : World} {q : Nat} {L : Nat → Option Lab} {N : Nat} {S : St} {fl : List (ByteArray × List UInt8)} {d : Dk} {lv tv : Value} {bv : Nat → Value} (h : RX w q L N S fl d lv tv bv) (i : Nat) (hi : i < 19) (e : De) (hd : e.place ≤ N) (hn : e.name.size ≤ 255) : RX (rset3 w d i e) q L N (S.setDe i e) fl d lv tv bv := by
  refine h.store (by simp [rset3]) (fun k hk => ?_) (fun j => ?_) (upd S.ds i e) (fun j hj => ?_) (fun j hj => ?_)
  · unfold rset3
    rw [Below.heap_setCell _ _ _ _ hk, Below.heap_setCell _ _ _ _ hk, Below.heap_setCell _ _ _ _ hk]
  · unfold rset3
    rw [World.frozen?_setCell, World.frozen?_setCell, World.frozen?_setCell]
    exact h.dz j
  · obtain ⟨a, b, c⟩ := h.dc i hi
    obtain ⟨a', b', c'⟩ := h.dc j hj
    unfold rset3
    by_cases e : j = i
    · subst e
      rw [upd_same]
      simp [World.cell?_setCell_same, World.cell?_setCell_other, a, b, c]
    · rw [upd_other _ _ e]
      have o : ∀ x y v (u : World), x ≠ y → (u.setCell ⟨d, y, none⟩ v).cell? ⟨d, x, none⟩ = u.cell? ⟨d, x, none⟩ := fun x y v u h => World.cell?_setCell_other u _ _ v (by intro e; cases e; exact h rfl)
      refine ⟨?_, ?_, ?_⟩
      · rw [o _ _ _ _ (by omega), o _ _ _ _ (by omega), o _ _ _ _ (by omega)]; exact a'
      · rw [o _ _ _ _ (by omega), o _ _ _ _ (by omega), o _ _ _ _ (by omega)]; exact b'
      · rw [o _ _ _ _ (by omega), o _ _ _ _ (by omega), o _ _ _ _ (by omega)]; exact c'
  · by_cases e : j = i
    · subst e; rw [upd_same]; exact ⟨hd, hn⟩
    · rw [upd_other _ _ e]; exact h.pl j hj

theorem rset3_tn {w a : World} {d : Nat} {L : Nat → Option Lab} (t : Tn (fun k => L k ≠ none) a w) (hd : L d = some .inp) (i : Nat) (e : De) : Tn (fun k => L k ≠ none) a (rset3 w d i e) :=
  ((t.set _ _ (fun _ => by rw [hd]; simp)).set _ _ (fun _ => by rw [hd]; simp)).set _ _ (fun _ => by rw [hd]; simp)
theorem PR.same {w w' : World} {q : Nat} {L : Nat → Option Lab} {N : Nat} {S : St} (h : PR w q L N S) (t : Tn No w w') : RLft w q L w' N S := ⟨L, h.no t, t.any, fun _ _ e => e⟩

set_option maxHeartbeats 1000000 in
set_option maxRecDepth 100000 in
theorem rclose_raw (w : World) (q : Nat) (L : Nat → Option Lab) (N : Nat) (S : St) (h : PR w q L N S) (fd : Int) (h0 : -9223372036854775808 ≤ fd) (h1 : fd ≤ 9223372036854775807) :
    Calls Try.prog 38 #[.pointer (some ⟨q, 0, none⟩), .int .i64 fd] w fun e w' => e = .returned (.int .i64 (closeRes S fd)) ∧ RLft w q L w' N (S.close fd) := by
  have HK := hid (kind_raw w q L N S h fd h0 h1)
  have HP := hid h
  by_cases hk : (S.at fd).kind = 0
  · have hd : ((S.at fd).kind == 0) = true := by simpa using hk
    have HKK := hid hk
    clear hk h
    go_enter Try.func38, Try.ntmps38
    go_wp2_with (go_at_call 59; refine HK.out.mono ?_; rintro e w1 ⟨rfl, rfl⟩)
    go_ret
    refine ⟨ret_int ?_, ?_⟩
    · unfold closeRes; rw [if_pos HKK.out]
    · unfold St.close; rw [if_pos HKK.out]; exact HP.out.same (by repeat (first | exact Tn.refl _ _ | apply Tn.drew | apply Tn.drewN | apply Tn.alloc | (refine Tn.then ?_ (by assumption)) | (refine Tn.thenNo ?_ (by assumption))))
  · have hd : ((S.at fd).kind == 0) = false := by simpa using hk
    have hr : 0 ≤ fd ∧ fd < 19 := by
      rcases Classical.em (0 ≤ fd ∧ fd < 19) with h | h
      · exact h
      · exfalso; apply hk; unfold St.at; rw [if_neg h]; rfl
    have HKK := hid hk
    obtain ⟨hr0, hr1⟩ := hr
    obtain ⟨i, rfl⟩ : ∃ i : Nat, fd = (i : Int) := ⟨fd.toNat, by omega⟩
    have hi : i < 19 := by omega
    obtain ⟨fl, d, lv, tv, bv, hx⟩ := h
    have k2 := hx.c2
    obtain ⟨c0, c1, c2⟩ := hx.dc i hi
    have f0 := hx.dz
    have hdl := hx.dlt
    have HX := hid hx
    clear hk h0 h1 hx
    go_enter Try.func38, Try.ntmps38
    go_wp2_with (go_at_call 59; refine HK.out.mono ?_; rintro e w1 ⟨rfl, rfl⟩)
    go_ret
    refine ⟨ret_int ?_, ?_⟩
    · unfold closeRes; rw [if_neg HKK.out]
    · unfold St.close; rw [if_neg HKK.out, Int.toNat_natCast]
      exact ⟨L, ⟨_, _, _, _, _, HX.out.setDe i hi noDe (Nat.zero_le _) (by decide)⟩, rset3_tn (Tn.refl _ _) HX.out.labd i noDe, fun _ _ e => e⟩
end Go.Proofs.Ytkbdgdcicflocaa
namespace Go.Proofs.Ytkbdgdcicflocaa
set_option linter.unusedSimpArgs false
set_option linter.unusedVariables false
open Go.RowKit
attribute [local go_sem ↓] Go.wp_at_zero Go.wp_at_succ

/-- the input's place is written -/
theorem RX.setRd {w : World} {q : Nat} {L : Nat → Option Lab} {N : Nat} {S : St} {fl : List (ByteArray × List UInt8)} {d : Dk} {lv tv : Value} {bv : Nat → Value} (h : RX w q L N S fl d lv tv bv) (r : Nat) (hr : r ≤ S.inp.length) :
    RX (w.setCell ⟨q, 1, none⟩ (.string (str (S.inp.drop r)))) q L N { S with rd := r } fl d lv tv bv := by
  have hk : ∀ k, k ≠ q → (w.setCell ⟨q, 1, none⟩ (.string (str (S.inp.drop r)))).heap[k]? = w.heap[k]? := fun k hk => Below.heap_setCell _ _ _ _ hk
  have ne : ∀ k x, L k = some x → x ≠ .st → k ≠ q := fun k x e1 e2 e3 => by rw [e3, h.labs] at e1; cases e1; exact e2 rfl
  have hd := hk d (ne d _ h.labd (by simp))
  have cd : ∀ i, (w.setCell ⟨q, 1, none⟩ (.string (str (S.inp.drop r)))).cell? ⟨d, i, none⟩ = w.cell? ⟨d, i, none⟩ := fun i => World.cell?_of_block (w := w) (a := ⟨d, i, none⟩) hd
  have o : ∀ x, x ≠ 1 → (w.setCell ⟨q, 1, none⟩ (.string (str (S.inp.drop r)))).cell? ⟨q, x, none⟩ = w.cell? ⟨q, x, none⟩ := fun x hx => World.cell?_setCell_other w _ _ _ (by intro e; cases e; exact hx rfl)
  have hl : ∀ g, lv.ownBlock = some g → (w.setCell ⟨q, 1, none⟩ (.string (str (S.inp.drop r)))).heap[g]? = w.heap[g]? := fun g hg => hk g (ne g _ (h.labl g hg) (by simp))
  refine { h with qlt := by simpa using h.qlt, c0 := (o 0 (by omega)).trans h.c0, c1 := World.cell?_setCell_same _ _ _ h.c1, c2 := (o 2 (by omega)).trans h.c2, c3 := (o 3 (by omega)).trans h.c3, fz := fun i => by rw [World.frozen?_setCell]; exact h.fz i, dc := fun i hi => ?_, dz := fun i => by rw [World.frozen?_setCell]; exact h.dz i, tr := h.tr.kept (fun g hg => hk g (ne g _ (h.labt g hg) (by simp))), row := h.row.kept hl, lc := fun i hi => ?_, lt := fun k hk' => by simpa using h.lt k hk', rd := hr }
  · obtain ⟨a, b, c⟩ := h.dc i hi
    exact ⟨(cd _).trans a, (cd _).trans b, (cd _).trans c⟩
  · obtain ⟨a, b, c, e, f, g⟩ := h.lc i hi
    exact ⟨(vc_kept hl _).trans a, (vc_kept hl _).trans b, c.kept (fun g hg => hk g (ne g _ (e g hg) (by simp))), e, f, g⟩

theorem ll_cons (b : UInt8) (l : List UInt8) : lineLen (b :: l) = if b = 10 then 1 else lineLen l + 1 := by
  have hg := Lib.indexByte_ge l 10
  have e : Lib.indexByte (b :: l) 10 = if (b == 10) = true then 0 else if (Lib.indexByte l 10 == -1) = true then -1 else Lib.indexByte l 10 + 1 := rfl
  unfold lineLen
  rw [e]
  by_cases hb : b = 10
  · have hb' : (b == 10) = true := by simpa using hb
    rw [if_pos hb', if_pos hb, if_pos (by omega)]
    rfl
  · have hb' : ¬ (b == 10) = true := by simpa using hb
    rw [if_neg hb', if_neg hb]
    by_cases h1 : Lib.indexByte l 10 = -1
    · have h1' : (Lib.indexByte l 10 == -1) = true := by simpa using h1
      rw [if_pos h1', if_neg (by omega), if_neg (by omega)]
      rfl
    · have h1' : ¬ (Lib.indexByte l 10 == -1) = true := by simpa using h1
      rw [if_neg h1', if_pos (by omega), if_pos (by omega)]
      omega
theorem ll_at : ∀ (l : List UInt8) (k : Nat) (h : k < l.length), l[k] = 10 → (∀ j (hj : j < k), ¬ l[j] = 10) → lineLen l = k + 1
  | [], _, h, _, _ => by simp at h
  | b :: l, 0, _, h0, _ => by
    rw [ll_cons, if_pos (show b = 10 from h0)]
  | b :: l, k + 1, h, h0, h1 => by
    rw [ll_cons, if_neg (show ¬ b = 10 from h1 0 (by omega)), ll_at l k (by simpa using h) h0 (fun j hj => h1 (j + 1) (by omega))]
theorem ll_none : ∀ (l : List UInt8), (∀ j (h : j < l.length), ¬ l[j] = 10) → lineLen l = l.length
  | [], _ => rfl
  | b :: l, h => by
    rw [ll_cons, if_neg (show ¬ b = 10 from h 0 (by simp)), ll_none l (fun j hj => h (j + 1) (by simpa using hj))]
    rfl

theorem str_extract (l : List UInt8) (a b : Nat) : (str l).extract a b = str ((l.take b).drop a) := by
  apply ByteArray.ext
  rw [ByteArray.data_extract]
  unfold str
  apply Array.ext'
  simp [List.drop_take]
theorem rline_end {w : World} {q : Nat} {L : Nat → Option Lab} {N : Nat} {S : St} {fl : List (ByteArray × List UInt8)} {d : Dk} {lv tv : Value} {bv : Nat → Value} (h : RX w q L N S fl d lv tv bv) (st x : ByteArray) (hst : str (S.inp.drop S.rd) = st) (r : Nat) (hr : r ≤ st.size) (hll : lineLen (S.inp.drop S.rd) = r) (hx : x = st.extract r st.size) :
    (Ending.returned (.string (st.extract 0 r)) = .returned (.string (str (nx S.inp S.rd (lineLen (S.inp.drop S.rd)))))) ∧ RLft w q L (w.setCell ⟨q, 1, none⟩ (.string x)) N (S.read (lineLen (S.inp.drop S.rd))) := by
  have hsz : st.size = (S.inp.drop S.rd).length := by rw [← hst, str_size]
  rw [hll]
  refine ⟨by rw [← hst, str_extract]; rfl, ?_⟩
  have e : x = str (S.inp.drop (S.rd + r)) := by
    rw [hx, hsz, ← hst, str_extract, List.take_length, List.drop_drop]
  rw [e]
  have hrd := h.rd
  have hl : (S.inp.drop S.rd).length = S.inp.length - S.rd := by simp
  exact ⟨L, ⟨_, _, _, _, _, h.setRd (S.rd + r) (by omega)⟩, (Tn.refl _ _).own h.labs 1 _, fun _ _ e => e⟩

set_option maxHeartbeats 2000000 in
set_option maxRecDepth 100000 in
theorem rline_raw (w : World) (q : Nat) (L : Nat → Option Lab) (N : Nat) (S : St) (h : PR w q L N S) (hin : S.inp.length ≤ 9223372036854775806) :
    Calls Try.prog 42 #[.pointer (some ⟨q, 0, none⟩)] w fun e w' => e = .returned (.string (str (nx S.inp S.rd (lineLen (S.inp.drop S.rd))))) ∧ RLft w q L w' N (S.read (lineLen (S.inp.drop S.rd))) := by
  obtain ⟨fl, d, lv, tv, bv, hx⟩ := h
  have k1 := hx.c1
  have f1 := hx.fz 1
  have hql := hx.qlt
  have HX := hid hx
  obtain ⟨st, hst⟩ : ∃ st, str (S.inp.drop S.rd) = st := ⟨_, rfl⟩
  rw [hst] at k1
  have hm : st.size ≤ 9223372036854775806 := by rw [← hst, str_size]; simp; omega
  have HST := hid hst
  have hget : ∀ j (hj : j < st.size) (hj2 : j < (S.inp.drop S.rd).length), (st[j]'hj) = ((S.inp.drop S.rd)[j]'hj2) := fun j hj hj2 => by
    subst hst
    rw [ByteArray.getElem_eq_getElem_data]
    simp [str]
  have hlen : (S.inp.drop S.rd).length = st.size := by rw [← hst, str_size]
  have HG := hid hget
  have HLEN := hid hlen
  obtain ⟨m, hmm⟩ : ∃ m, st.size = m := ⟨_, rfl⟩
  clear hx hst hget hlen
  go_enter Try.func42, Try.ntmps42
  go_wp2
  go_loop [3] (fun i => ∃ k : Nat, k ≤ m ∧ i = .int .i64 (k : Int) ∧ Hid (∀ j (hj : j < st.size), j < k → ¬ (st[j]'hj).toNat = 10)) (fun i => m - (intOf i).toNat)
  case atStart => exact ⟨0, by omega, rfl, hid (fun j _ h => by omega)⟩
  case round =>
    obtain ⟨k, hk, rfl, HP⟩ := hrel
    by_cases hlt : k < m
    · have hks : k < st.size := by omega
      have hks2 : (k : Int) < (st.size : Int) := by omega
      by_cases h0 : (st[k]'hks).toNat = 10
      · have hd1 : (((st[k]'hks).toNat : Int) != 10) = false := by rw [h0]; rfl
        have H0 := hid h0
        clear h0
        have hll : lineLen (S.inp.drop S.rd) = k + 1 := ll_at _ k (by rw [HLEN.out]; exact hks) (by rw [← HG.out k hks (by rw [HLEN.out]; exact hks)]; exact UInt8.toNat_inj.1 H0.out) (fun j hj e => by
          apply HP.out j (by omega) hj
          rw [HG.out j (by omega) (by rw [HLEN.out]; omega), e]
          rfl)
        have HLX := hid hll
        clear hll
        go_wp2
        go_ret
        exact rline_end HX.out st _ HST.out (k + 1) (by omega) HLX.out (by rw [hmm])
      · have hd1 : (((st[k]'hks).toNat : Int) != 10) = true := by rw [bne_iff_ne]; omega
        have H0 := hid h0
        clear h0
        go_wp2
        go_round
        case rel => exact ⟨k + 1, by omega, by go_num, hid (fun j hj h => by
          by_cases e : j = k
          · subst e; exact H0.out
          · exact HP.out j hj (by omega))⟩
        case measure => simp [intOf]; omega
    · obtain rfl : k = m := by omega
      have hll : lineLen (S.inp.drop S.rd) = k := by
        rw [ll_none _ (fun j hj e => by
          have hj' : j < st.size := by rw [HLEN.out] at hj; exact hj
          apply HP.out j hj' (by omega)
          rw [HG.out j hj' hj, e]
          rfl), HLEN.out, hmm]
      have HLX := hid hll
      clear hll
      go_wp2
      go_ret
      exact rline_end HX.out st _ HST.out k (by omega) HLX.out (by rw [hmm]; simp)
end Go.Proofs.Ytkbdgdcicflocaa
namespace Go.Proofs.Ytkbdgdcicflocaa
set_option linter.unusedSimpArgs false
set_option linter.unusedVariables false
open Go.RowKit
attribute [local go_sem ↓] Go.wp_at_zero Go.wp_at_succ

/-- another trace -/
theorem RX.withT {w w' : World} {q : Nat} {L L' : Nat → Option Lab} {N N' : Nat} {S : St} {fl : List (ByteArray × List UInt8)} {d : Dk} {lv tv tv' : Value} {bv : Nat → Value} {tr' : List Ev} (h : RX w q L N S fl d lv tv bv) (hN : N ≤ N') (hs : w.heap.size ≤ w'.heap.size)
    (hk : ∀ k, L k ≠ none → L k ≠ some .tr → k ≠ q → w'.heap[k]? = w.heap[k]?) (hq : ∀ i, i ≠ 3 → w'.cell? ⟨q, i, none⟩ = w.cell? ⟨q, i, none⟩) (hq3 : w'.cell? ⟨q, 3, none⟩ = some tv') (hqz : ∀ i, w'.frozen? ⟨q, i, none⟩ = false)
    (up : ∀ k x, L k = some x → L' k = some x) (hlt : ∀ k, L' k ≠ none → k < w'.heap.size) (htv : TV w' tv' tr') (hlab : ∀ g, tv'.ownBlock = some g → L' g = some .tr) (hlen : tr'.length ≤ N' ∧ ∀ e ∈ tr', e.text.length ≤ N') : RX w' q L' N' { S with tr := tr' } fl d lv tv' bv := by
  have ne : ∀ k x, L k = some x → x ≠ .st → k ≠ q := fun k x e1 e2 e3 => by rw [e3, h.labs] at e1; cases e1; exact e2 rfl
  have hk' : ∀ k x, L k = some x → x ≠ .st → x ≠ .tr → w'.heap[k]? = w.heap[k]? := fun k x e1 e2 e3 => hk k (by rw [e1]; simp) (by rw [e1]; intro e; cases e; exact e3 rfl) (ne k x e1 e2)
  have hd := hk' d _ h.labd (by simp) (by simp)
  have cd : ∀ i, w'.cell? ⟨d, i, none⟩ = w.cell? ⟨d, i, none⟩ := fun i => World.cell?_of_block (w := w) (a := ⟨d, i, none⟩) hd
  have hl : ∀ g, lv.ownBlock = some g → w'.heap[g]? = w.heap[g]? := fun g hg => hk' g _ (h.labl g hg) (by simp) (by simp)
  refine { h with qlt := Nat.lt_of_lt_of_le h.qlt hs, c0 := (hq 0 (by omega)).trans h.c0, c1 := (hq 1 (by omega)).trans h.c1, c2 := (hq 2 (by omega)).trans h.c2, c3 := hq3, fz := hqz, labs := up _ _ h.labs, labd := up _ _ h.labd, dc := fun i hi => ?_, dz := fun i => ?_, pl := fun i hi => ⟨Nat.le_trans (h.pl i hi).1 hN, (h.pl i hi).2⟩, tr := htv, labt := hlab, tlen := hlen, row := h.row.kept hl, labl := fun g hg => up _ _ (h.labl g hg), lc := fun i hi => ?_, len := Nat.le_trans h.len hN, lt := hlt }
  · obtain ⟨a, b, c⟩ := h.dc i hi
    exact ⟨(cd _).trans a, (cd _).trans b, (cd _).trans c⟩
  · have := h.dz i
    simp only [World.frozen?, hd] at this ⊢
    exact this
  · obtain ⟨a, b, c, e, f, g⟩ := h.lc i hi
    exact ⟨(vc_kept hl _).trans a, (vc_kept hl _).trans b, c.kept (fun g hg => hk' g _ (e g hg) (by simp) (by simp)), fun g hg => up _ _ (e g hg), Nat.le_trans f hN, g⟩

/-- an event goes on the reference's trace -/
theorem RX.addEv {w : World} {q : Nat} {L : Nat → Option Lab} {N : Nat} {S : St} {fl : List (ByteArray × List UInt8)} {d : Dk} {lv tv : Value} {bv : Nat → Value} (h : RX w q L N S fl d lv tv bv) (hN : N + 1 ≤ 1099511627776) (k : Int) (nm : ByteArray) (t : List UInt8) :
    ∃ v' w', (Builtin.append_ #[47, 47] 47 #[tv, .slice (some ⟨w.heap.size, 0, none⟩) 1 1]).run Try.prog (w.alloc (.cells #[.int .i64 k, .string nm, .string (str t)] 50)) = .ok v' w' ∧ (∃ a n c, v' = .slice a n c) ∧
      w'.cell? ⟨q, 3, none⟩ = some tv ∧ w'.frozen? ⟨q, 3, none⟩ = false ∧ q < w'.heap.size ∧ RLft w q L (w'.setCell ⟨q, 3, none⟩ v') (N + t.length + 1) { S with tr := S.tr ++ [⟨k, nm, t⟩] } := by
  have t1 : Tn No w (w.alloc (.cells #[.int .i64 k, .string nm, .string (str t)] 50)) := (by repeat (first | exact Tn.refl _ _ | apply Tn.drew | apply Tn.drewN | apply Tn.alloc | (refine Tn.then ?_ (by assumption)) | (refine Tn.thenNo ?_ (by assumption))))
  have hsz1 : (w.alloc (.cells #[.int .i64 k, .string nm, .string (str t)] 50)).heap.size = w.heap.size + 1 := by simp
  have hnew : ∀ j, (w.alloc (.cells #[.int .i64 k, .string nm, .string (str t)] 50)).cell? ⟨w.heap.size, j, none⟩ = (#[.int .i64 k, .string nm, .string (str t)] : Array Value)[j]? := fun j => World.cell?_alloc_mark w _ _ _ j
  have hx1 := h.no t1
  have hb : ∀ j u, ([.int .i64 k, .string nm, .string (str t)] : List Value)[j]? = some u → (w.alloc (.cells #[.int .i64 k, .string nm, .string (str t)] 50)).cell? ⟨w.heap.size, j, none⟩ = some u := fun j u hu => by rw [hnew]; simpa using hu
  clear hnew
  generalize w.alloc (.cells #[.int .i64 k, .string nm, .string (str t)] 50) = w1 at *
  have hlen := h.tlen
  obtain ⟨v', w', hr, htv, hg, hown⟩ := tv_append hx1.tr ⟨k, nm, t⟩ w.heap.size hb (by omega)
  obtain ⟨g', cap', hv', hg', _⟩ := htv.rw.pos (by simp)
  have hob : v'.ownBlock = some g' := by rw [hv']; rfl
  have hg2 : L g' = some .tr ∨ g' = w1.heap.size := by
    rw [hob] at hown
    rcases hown with e | e
    · left; exact h.labt g' e.symm
    · right; exact Option.some.inj e
  have hk : ∀ k, L k ≠ none → L k ≠ some .tr → w'.heap[k]? = w1.heap[k]? := fun k h1 h2 => hg.block k (hx1.lt k h1) (fun e => h2 (h.labt k e.symm))
  have hne : g' ≠ q := by
    rintro rfl
    rcases hg2 with e | e
    · rw [h.labs] at e; cases e
    · have := hx1.qlt; omega
  have hq := hk q (by rw [h.labs]; simp) (by rw [h.labs]; simp)
  have cq : ∀ i, w'.cell? ⟨q, i, none⟩ = w1.cell? ⟨q, i, none⟩ := fun i => World.cell?_of_block (w := w1) (a := ⟨q, i, none⟩) hq
  have fq : ∀ i, w'.frozen? ⟨q, i, none⟩ = false := fun i => by
    have := hx1.fz i
    simp only [World.frozen?, hq] at this ⊢
    exact this
  have up : ∀ k x, L k = some x → upd L g' (some .tr) k = some x := fun k x e => by
    by_cases ek : k = g'
    · subst ek
      rw [upd_same]
      rcases hg2 with e' | e'
      · rw [e'] at e; exact e
      · have := hx1.lt k (by rw [e]; simp); omega
    · rw [upd_other _ _ ek]; exact e
  have hks : ∀ k, k ≠ q → (w'.setCell ⟨q, 3, none⟩ v').heap[k]? = w'.heap[k]? := fun k hk => Below.heap_setCell _ _ _ _ hk
  have t2 : Tn (fun k => L k ≠ none) w w' := (t1.any).grown hg (fun i e _ => by rw [h.labt i e]; simp)
  have c3' : w'.cell? ⟨q, 3, none⟩ = some tv := (cq 3).trans hx1.c3
  refine ⟨v', w', hr, ⟨_, _, _, hv'⟩, c3', fq 3, Nat.lt_of_lt_of_le hx1.qlt hg.size, upd L g' (some .tr), ⟨fl, d, lv, v', bv, ?_⟩, t2.own h.labs _ _, fun k hk e => ?_⟩
  · refine hx1.withT (by omega) (by simpa using hg.size) (fun k h1 h2 h3 => (hks k h3).trans (hk k h1 h2)) (fun i hi => ?_) (World.cell?_setCell_same _ _ _ c3') (fun i => by rw [World.frozen?_setCell]; exact fq i) up (fun k hk' => ?_) (htv.kept (fun g hgg => ?_)) (fun g hgg => ?_) ⟨by simp; omega, fun e he => ?_⟩
    · rw [World.cell?_setCell_other _ _ _ _ (by intro e; cases e; exact hi rfl)]; exact cq i
    · have e : (w'.setCell ⟨q, 3, none⟩ v').heap.size = w'.heap.size := by simp
      rw [e]
      by_cases ek : k = g'
      · subst ek; exact hg'
      · rw [upd_other _ _ ek] at hk'; exact Nat.lt_of_lt_of_le (hx1.lt k hk') hg.size
    · rw [hob] at hgg; cases hgg; exact hks _ hne
    · rw [hob] at hgg; cases hgg; exact upd_same _ _ _
    · rcases List.mem_append.1 he with he | he
      · have := hlen.2 e he; omega
      · simp at he; subst he; simp; omega
  · by_cases ek : k = g'
    · subst ek
      rcases hg2 with e' | e'
      · rw [e] at e'; cases e'
      · omega
    · rw [upd_other _ _ ek]; exact e
end Go.Proofs.Ytkbdgdcicflocaa
