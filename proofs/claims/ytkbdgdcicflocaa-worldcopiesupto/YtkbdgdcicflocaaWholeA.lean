/-
  The law's whole: both worlds tell the same, and what was told is its owner's.
-/
import Derived.Test.YtkbdgdcicflocaaDoesB
import Derived.Test.YtkbdgdcicflocaaFiles
import Derived.Test.YtkbdgdcicflocaaNewAll
import Derived.Test.YtkbdgdcicflocaaRef25
import Derived.Test.YtkbdgdcicflocaaToldA
namespace Go.Proofs.Ytkbdgdcicflocaa
set_option linter.unusedSimpArgs false
set_option linter.unusedVariables false
open Go.RowKit
attribute [local go_sem ↓] Go.wp_at_zero Go.wp_at_succ

theorem RW.setAny {w : World} {size : Nat} {v : Value} {n : Nat} (h : RW w size v n) (b j : Nat) (x : Value) : RW (w.setCell ⟨b, j, none⟩ x) size v n := by
  rcases h with h | ⟨g, cap, rfl, hg, h1, h2, h3⟩
  · exact .inl h
  · have h' : RW w size (.slice (some ⟨g, 0, none⟩) n cap) n := .inr ⟨g, cap, rfl, hg, h1, h2, h3⟩
    by_cases e : b = g
    · subst e; exact h'.set j x
    · exact h'.kept (fun g' hg' => by cases hg'; exact Below.heap_setCell _ _ _ _ (fun e' => e e'.symm))
theorem RW.at3 {w : World} {g n cap : Nat} (h : RW w 3 (.slice (some ⟨g, 0, none⟩) n cap) n) (k : Nat) (hk : k < n) :
    (∃ a, w.cell? ⟨g, k * 3, none⟩ = some a) ∧ (∃ a, w.cell? ⟨g, k * 3 + 1, none⟩ = some a) ∧ (∃ a, w.cell? ⟨g, k * 3 + 2, none⟩ = some a) ∧ w.frozen? ⟨g, k * 3, none⟩ = false ∧ w.frozen? ⟨g, k * 3 + 1, none⟩ = false ∧ w.frozen? ⟨g, k * 3 + 2, none⟩ = false := by
  rcases h with ⟨e, _⟩ | ⟨g', cap', e, hg, h1, h2, h3⟩
  · cases e
  · cases e
    exact ⟨Option.isSome_iff_exists.1 (h3 _ (by omega)).1, Option.isSome_iff_exists.1 (h3 _ (by omega)).1, Option.isSome_iff_exists.1 (h3 _ (by omega)).1, (h3 _ (by omega)).2, (h3 _ (by omega)).2, (h3 _ (by omega)).2⟩
theorem RW.at2 {w : World} {g n cap : Nat} (h : RW w 2 (.slice (some ⟨g, 0, none⟩) n cap) n) (k : Nat) (hk : k < n) :
    (∃ a, w.cell? ⟨g, k * 2, none⟩ = some a) ∧ (∃ a, w.cell? ⟨g, k * 2 + 1, none⟩ = some a) ∧ w.frozen? ⟨g, k * 2, none⟩ = false ∧ w.frozen? ⟨g, k * 2 + 1, none⟩ = false := by
  rcases h with ⟨e, _⟩ | ⟨g', cap', e, hg, h1, h2, h3⟩
  · cases e
  · cases e
    exact ⟨Option.isSome_iff_exists.1 (h3 _ (by omega)).1, Option.isSome_iff_exists.1 (h3 _ (by omega)).1, (h3 _ (by omega)).2, (h3 _ (by omega)).2⟩

set_option maxHeartbeats 4000000 in
set_option maxRecDepth 100000 in
theorem whole_raw (u : World) (p q N : Nat) (S : St) (X : Nat → Prop) (h : PP u p q N S N S X) (hN : N ≤ 1099511627776) :
    Calls Try.prog 13 #[.pointer (some ⟨p, 0, none⟩), .pointer (some ⟨q, 0, none⟩)] u fun e u' => e = .returned (.bool true) ∧ Tn No u u' := by
  obtain ⟨L, L', a, ⟨fl, d, lv, tv, bv, b⟩, _⟩ := h
  have k3 := b.c3
  have qlt := b.qlt
  have htl : S.tr.length ≤ 1099511627776 := by have := b.tlen.1; omega
  have hfl : fl.length ≤ 1099511627776 := by have := b.len; omega
  obtain ⟨ta, tc, rfl, _⟩ := b.tr.rw.form
  have HTR : Hid (∀ v, Tn No u v → Calls Try.prog 19 #[.pointer (some ⟨p, 0, none⟩)] v (TracePost v S.tr)) := hid (fun v t => trace_raw p L N S v (a.no t) hN)
  have HFI : Hid (∀ v, Tn No u v → Calls Try.prog 45 #[.pointer (some ⟨p, 0, none⟩)] v (FilesPost v fl)) := hid (fun v t => files_raw p L N S v (a.no t) fl b.fs b.up (fun f hf => by
    obtain ⟨i, hi, rfl⟩ := List.getElem_of_mem hf
    exact (b.lc i hi).2.2.2.2.2) hfl)
  have HRF : Hid (∀ v, Tn No u v → Calls Try.prog 48 #[.pointer (some ⟨q, 0, none⟩)] v (FilesPost v fl)) := hid (fun v t => rfiles_raw v q L' N S fl d lv _ bv (b.kept t.size (fun k hk => t.block k (b.lt k hk) (fun e => e))) hN)
  have HSM : Hid (∀ v va, Tn No u v → TV v va S.tr → Calls Try.prog 46 #[va, .slice ta S.tr.length tc] v fun e w' => e = .returned (.bool true) ∧ Tn No v w') := hid (fun v va t hv => same_raw v va _ S.tr hv (b.tr.no t) htl)
  have HLF : Hid (∀ v va vb, FV v va fl → FV v vb fl → Calls Try.prog 47 #[va, vb] v fun e w' => e = .returned (.bool true) ∧ Tn No v w') := hid (fun v va vb h1 h2 => lfiles_raw v va vb fl h1 h2 hfl)
  obtain ⟨nt, hnt⟩ : ∃ nt, S.tr.length = nt := ⟨_, rfl⟩
  obtain ⟨nf, hnf⟩ : ∃ nf, fl.length = nf := ⟨_, rfl⟩
  rw [hnt] at k3 HSM htl
  rw [hnf] at hfl
  have HNT := hid hnt
  have HNF := hid hnf
  clear a b hN hnt hnf
  go_enter Try.func13, Try.ntmps13
  go_wp2_with (first
    | (go_at_call 19; refine (HTR.out _ (by repeat (first | exact Tn.refl _ _ | apply Tn.drew | apply Tn.drewN | apply Tn.alloc | (refine Tn.then ?_ (by assumption)) | (refine Tn.thenNo ?_ (by assumption))))).mono ?_; rintro e w1 ⟨v1, rfl, ht1, ho1, tn1⟩; have HT1 := hid ht1; clear ht1; have c1 := (tn1.cell qlt (fun e => e)).trans k3; have ql1 : q < w1.heap.size := Nat.lt_of_lt_of_le qlt tn1.size)
    | (go_at_call 45; refine (HFI.out _ tn1).mono ?_; rintro e w2 ⟨v2, rfl, hf2, ho2, tn2⟩; have HF2 := hid hf2; clear hf2; have tn12 := tn1.then tn2; have c2 := (tn12.cell qlt (fun e => e)).trans k3; have ql2 : q < w2.heap.size := Nat.lt_of_lt_of_le qlt tn12.size)
    | (go_at_call 46; refine (HSM.out _ _ tn12 (HT1.out.no tn2)).mono ?_; rintro e w3 ⟨rfl, tn3⟩)
    | (go_at_call 48; refine (HRF.out _ (tn12.then tn3)).mono ?_; rintro e w4 ⟨v4, rfl, hf4, ho4, tn4⟩)
    | (go_at_call 47; refine (HLF.out _ _ _ (HF2.out.no (tn3.then tn4)) hf4).mono ?_; rintro e w5 ⟨rfl, tn5⟩))
  have tn15 : Tn No u w5 := tn12.then (tn3.then (tn4.then tn5))
  have r1 : RW w5 3 v1 nt := by have := HT1.out.rw.kept (fun g hg => (tn2.then (tn3.then (tn4.then tn5))).block g (HT1.out.rw.lt g hg) (fun e => e)); rw [HNT.out] at this; exact this
  have r2 : RW w5 2 v2 nf := by have := HF2.out.rw.kept (fun g hg => (tn3.then (tn4.then tn5)).block g (HF2.out.rw.lt g hg) (fun e => e)); rw [HNF.out] at this; exact this
  obtain ⟨a1, cap1, rfl, _, hcm1, hnil1, hsome1⟩ := r1.form
  obtain ⟨a2, cap2, rfl, _, hcm2, hnil2, hsome2⟩ := r2.form
  have HN1 := hid hnil1
  have HS1 := hid hsome1
  have HN2 := hid hnil2
  have HS2 := hid hsome2
  have HO1 := hid ho1
  have HO2 : Hid (∀ g, (Value.slice a2 nf cap2).ownBlock = some g → u.heap.size ≤ g) := hid (fun g hg => Nat.le_trans tn1.size (ho2 g hg))
  clear ho1 ho2 ho4 hnil1 hsome1 hnil2 hsome2 hf4 HT1 HF2 tn1 tn2 tn3 tn4 tn5 tn12 c1 c2 ql1 ql2
  go_loopw [7] (fun i wr => ∃ k : Nat, k ≤ nt ∧ i = .int .i64 k ∧ Tn No u wr ∧ w5.heap.size ≤ wr.heap.size ∧ RW wr 3 (.slice a1 nt cap1) nt ∧ RW wr 2 (.slice a2 nf cap2) nf) (fun i _ => nt - (intOf i).toNat)
  case atStart => exact ⟨0, by omega, rfl, tn15, Nat.le_refl _, r1, r2⟩
  case round =>
    obtain ⟨k, hk, rfl, ht, hsz, r1', r2'⟩ := hrel
    by_cases hlt : k < nt
    · cases a1 with
      | none => have := (HN1.out rfl).1; omega
      | some x =>
      obtain ⟨hxe, hxl⟩ := HS1.out x rfl
      obtain ⟨g, o, sp⟩ := x
      cases hxe
      obtain ⟨⟨o0, e0⟩, ⟨o1, e1⟩, ⟨o2, e2⟩, z0, z1, z2⟩ := r1'.at3 k hlt
      have hgl : g < wr.heap.size := Nat.lt_of_lt_of_le hxl hsz
      have hki : (k : Int) < (nt : Int) := by omega
      have hgu : u.heap.size ≤ g := HO1.out g rfl
      have HR1 := hid r1'
      have HR2 := hid r2'
      clear HN1 HS1 HN2 HS2 r1' r2' r1 r2
      go_wp2
      go_roundw
      case rel => exact ⟨k + 1, by omega, by go_num, ((ht.set ⟨g, k * 3, none⟩ _ (fun h => absurd h (Nat.not_lt.2 hgu))).set ⟨g, k * 3 + 1, none⟩ _ (fun h => absurd h (Nat.not_lt.2 hgu))).set ⟨g, k * 3 + 2, none⟩ _ (fun h => absurd h (Nat.not_lt.2 hgu)), by simpa using hsz, ((HR1.out.setAny _ _ _).setAny _ _ _).setAny _ _ _, ((HR2.out.setAny _ _ _).setAny _ _ _).setAny _ _ _⟩
      case measure => simp [intOf]; omega
    · obtain rfl : k = nt := by omega
      have ht0 := ht
      have hsz0 := hsz
      clear HN1 HS1 r1' r1 r2 HO1
      go_wp2
      clear ht hsz
      obtain ⟨wx, hwx⟩ : ∃ wx, wr = wx := ⟨_, rfl⟩
      rw [hwx] at ht0 hsz0 r2' ⊢
      clear hwx hk
      go_loopw [8] (fun i wr => ∃ k : Nat, k ≤ nf ∧ i = .int .i64 k ∧ Tn No u wr ∧ w5.heap.size ≤ wr.heap.size ∧ RW wr 2 (.slice a2 nf cap2) nf) (fun i _ => nf - (intOf i).toNat)
      case atStart => exact ⟨0, by omega, rfl, ht0, hsz0, r2'⟩
      case round =>
        obtain ⟨j, hj, rfl, ht, hsz, r2''⟩ := hrel
        by_cases hlt : j < nf
        · cases a2 with
          | none => have := (HN2.out rfl).1; omega
          | some x =>
          obtain ⟨hxe, hxl⟩ := HS2.out x rfl
          obtain ⟨g, o, sp⟩ := x
          cases hxe
          obtain ⟨⟨o0, e0⟩, ⟨o1, e1⟩, z0, z1⟩ := r2''.at2 j hlt
          have hgl : g < wr.heap.size := Nat.lt_of_lt_of_le hxl hsz
          have hki : (j : Int) < (nf : Int) := by omega
          have hgu : u.heap.size ≤ g := HO2.out g rfl
          have HR2 := hid r2''
          clear HN2 HS2 r2' r2''
          go_wp2
          go_roundw
          case rel => exact ⟨j + 1, by omega, by go_num, (ht.set ⟨g, j * 2, none⟩ _ (fun h => absurd h (Nat.not_lt.2 hgu))).set ⟨g, j * 2 + 1, none⟩ _ (fun h => absurd h (Nat.not_lt.2 hgu)), by simpa using hsz, (HR2.out.setAny _ _ _).setAny _ _ _⟩
          case measure => simp [intOf]; omega
        · obtain rfl : j = nf := by omega
          have c1 := (ht.cell qlt (fun e => e)).trans k3
          have ql1 : q < wr.heap.size := Nat.lt_of_lt_of_le qlt ht.size
          clear HN2 HS2 r2' r2'' HO2 ht0 hsz0
          have c1' : ∀ v, Tn No u v → v.cell? ⟨q, 3, none⟩ = some (.slice ta k tc) := fun v t => (t.cell qlt (fun e => e)).trans k3
          have HC := hid c1'
          clear c1'
          go_wp2_with fail
          go_region_held3 (fun w' => w'.cell? ⟨q, 3, none⟩ = some (.slice ta k tc)) (go_keep) (first
            | (go_at_call 19; refine (HTR.out _ ht.drew).mono ?_; rintro e w6 ⟨v6, rfl, ht6, _, tn6⟩; have tn06 := ht.drew.then tn6; have c6 := HC.out _ tn06)
            | (go_at_call 46; refine (HSM.out _ _ tn06 ht6).mono ?_; rintro e w7 ⟨rfl, tn7⟩; have tn07 := tn06.then tn7; have c7 := HC.out _ tn07)
            | (go_at_call 45; refine (HFI.out _ tn07).mono ?_; rintro e w8 ⟨v8, rfl, hf8, _, tn8⟩; have tn08 := tn07.then tn8; have c8 := HC.out _ tn08)
            | (go_at_call 48; refine (HRF.out _ tn08).mono ?_; rintro e w9 ⟨v9, rfl, hf9, _, tn9⟩; have tn09 := tn08.then tn9; have c9 := HC.out _ tn09)
            | (go_at_call 47; refine (HLF.out _ _ _ (hf8.no tn9) hf9).mono ?_; rintro e w10 ⟨rfl, tn10⟩; have tn010 := tn09.then tn10; have c10 := HC.out _ tn010))
          go_wp2_with fail
          go_ret
          exact ⟨rfl, tn010⟩
end Go.Proofs.Ytkbdgdcicflocaa
namespace Go.Proofs.Ytkbdgdcicflocaa
set_option linter.unusedSimpArgs false
set_option linter.unusedVariables false
open Go.RowKit
attribute [local go_sem ↓] Go.wp_at_zero Go.wp_at_succ

theorem run_copy_rows {P : Program} (w : World) (dT sT ty elem : TypeId) (z b o dCap : Nat) (a : Addr) (n sCap : Nat) (cs : List Value)
    (hu : P.underlying dT = some (.slice elem)) (hs : (P.info? elem).map (·.size) = some z) (hn : cs.length = n * z)
    (hsrc : ∀ j v, cs[j]? = some v → w.cell? (a.add j) = some v) (hc : ∀ j, j < cs.length → (w.cell? ⟨b, o + j, none⟩).isSome = true) (hf : ∀ j, j < cs.length → w.frozen? ⟨b, o + j, none⟩ = false) (h1 : ∀ v ∈ cs, v.oneCell' = true) :
    (Builtin.copy_ #[dT, sT] ty #[.slice (some ⟨b, o, none⟩) n dCap, .slice (some a) n sCap]).run P w = .ok (goInt n) (w.setCells b o cs) := by
  have hl := run_loadCells_list (P := P) w a cs hsrc
  have hst := run_storeCells_cells (P := P) b o cs 0 w (by simpa using hc) (by simpa using hf) h1
  cases hq : P.info? elem with
  | none => simp [hq] at hs
  | some i =>
    have hi : i.size = z := by simpa [hq] using hs
    simp [Builtin.copy_, run_underlying hu, Builtin.lenOf, Builtin.firstCells, sizeOf, typeInfo, hq, hi, ← hn, hl, hst]
theorem run_copy_norows {P : Program} (w : World) (dT sT ty elem : TypeId) (z : Nat) (d a : Option Addr) (dLen dCap sLen sCap : Nat) (hu : P.underlying dT = some (.slice elem)) (hs : (P.info? elem).map (·.size) = some z) (hn : Nat.min sLen dLen = 0) :
    (Builtin.copy_ #[dT, sT] ty #[.slice d dLen dCap, .slice a sLen sCap]).run P w = .ok (goInt 0) w := by
  cases hq : P.info? elem with
  | none => simp [hq] at hs
  | some i =>
    have hl : ∀ (x : Addr), (loadCells x 0).run P w = .ok #[] w := fun x => by simpa using run_loadCells_list (P := P) w x [] (by simp)
    cases d <;> cases a <;> simp [Builtin.copy_, run_underlying hu, Builtin.lenOf, Builtin.firstCells, sizeOf, typeInfo, hq, hn, storeCells, hl]

/-- the files' cells -/
def fc (fl : List (ByteArray × ByteArray)) : List Value := fl.flatMap (fun f => [.string f.1, .string f.2])
theorem fc_length (fl : List (ByteArray × ByteArray)) : (fc fl).length = fl.length * 2 := by
  induction fl with
  | nil => rfl
  | cons f r ih => simp only [fc, List.flatMap_cons, List.length_append, List.length_cons, List.length_nil] at ih ⊢; omega
theorem fc_one (fl : List (ByteArray × ByteArray)) : ∀ v ∈ fc fl, v.oneCell' = true := by
  intro v hv
  simp only [fc, List.mem_flatMap, List.mem_cons, List.not_mem_nil, or_false] at hv
  obtain ⟨f, _, rfl | rfl⟩ := hv <;> rfl
theorem fc_at (fl : List (ByteArray × ByteArray)) (j : Nat) (hj : j < fl.length) : (fc fl)[j * 2]? = some (.string fl[j].1) ∧ (fc fl)[j * 2 + 1]? = some (.string fl[j].2) := by
  induction fl generalizing j with
  | nil => simp at hj
  | cons f r ih =>
    have e : fc (f :: r) = .string f.1 :: .string f.2 :: fc r := rfl
    rw [e]
    cases j with
    | zero => exact ⟨rfl, rfl⟩
    | succ j =>
      have := ih j (by simpa using hj)
      rw [show (j + 1) * 2 = j * 2 + 1 + 1 by omega, show j * 2 + 1 + 1 + 1 = (j * 2 + 1) + 1 + 1 by omega]
      simp only [List.getElem?_cons_succ, List.getElem_cons_succ]
      exact this
theorem fc_get (fl : List (ByteArray × ByteArray)) (j : Nat) (v : Value) (h : (fc fl)[j]? = some v) : ∃ i, ∃ hi : i < fl.length, (j = i * 2 ∧ v = .string fl[i].1) ∨ (j = i * 2 + 1 ∧ v = .string fl[i].2) := by
  have hj := (List.getElem?_eq_some_iff.1 h).1
  rw [fc_length] at hj
  have hi : j / 2 < fl.length := by omega
  obtain ⟨a, b⟩ := fc_at fl (j / 2) hi
  refine ⟨j / 2, hi, ?_⟩
  rcases Nat.mod_two_eq_zero_or_one j with e | e
  · left
    have : j = j / 2 * 2 := by omega
    refine ⟨this, ?_⟩
    rw [← this, h] at a
    exact Option.some.inj a
  · right
    have : j = j / 2 * 2 + 1 := by omega
    refine ⟨this, ?_⟩
    rw [← this, h] at b
    exact Option.some.inj b

/-- both worlds, all of whose memory is newer than W -/
def Inv (W u : World) (p q N : Nat) (S : St) : Prop := Tn No W u ∧ ∃ X, PP u p q N S N S X ∧ ∀ k, X k → W.heap.size ≤ k ∧ k < u.heap.size

theorem PP.trim {u : World} {p q N N2 : Nat} {S S2 : St} {X : Nat → Prop} (h : PP u p q N S N2 S2 X) : PP u p q N S N2 S2 (fun k => X k ∧ k < u.heap.size) := by
  obtain ⟨L, L', a, b, c, d, e⟩ := h
  refine ⟨L, L', a, b, fun k hk => ⟨c k hk, a.lt k hk⟩, fun k hk => ⟨d k hk, ?_⟩, e⟩
  obtain ⟨_, _, _, _, _, b⟩ := b
  exact b.lt k hk
theorem Inv.step {W u u' : World} {p q N M : Nat} {S R : St} (h : Inv W u p q N S) (hs : ∀ X, PP u p q N S N S X → ¬ X u.heap.size → PL u p q X u' M R M R) : Inv W u' p q M R := by
  obtain ⟨t, X, hp, hX⟩ := h
  obtain ⟨X', a, b, c⟩ := hs X hp (fun e => by have := (hX _ e).2; omega)
  refine ⟨t.trans b (fun _ _ e => e) (fun i hi e => by have := (hX i e).1; omega), _, a.trim, fun k hk => ⟨?_, hk.2⟩⟩
  rcases Nat.lt_or_ge k W.heap.size with h1 | h1
  · exact absurd hk.1 (c k (Nat.lt_of_lt_of_le h1 t.size) (fun e => by have := (hX k e).1; omega))
  · exact h1
theorem Inv.no {W u u' : World} {p q N : Nat} {S : St} (h : Inv W u p q N S) (t : Tn No u u') : Inv W u' p q N S := by
  obtain ⟨t0, X, hp, hX⟩ := h
  exact ⟨t0.then t, X, hp.no t, fun k hk => ⟨(hX k hk).1, Nat.lt_of_lt_of_le (hX k hk).2 t.size⟩⟩
/-- a cell of a block that is neither's -/
theorem Inv.set {W W2 u : World} {p q N : Nat} {S : St} (h : Inv W2 u p q N S) (t : Tn No W u) (g j : Nat) (v : Value) (hg : W.heap.size ≤ g) (hg2 : g < W2.heap.size) : ∃ X, PP (u.setCell ⟨g, j, none⟩ v) p q N S N S X ∧ ∀ k, X k → W2.heap.size ≤ k ∧ k < (u.setCell ⟨g, j, none⟩ v).heap.size := by
  obtain ⟨_, X, ⟨L, L', a, ⟨fl, d, lv, tv, bv, b⟩, c, e, f⟩, hX⟩ := h
  have hne : ∀ k, X k → k ≠ g := fun k hk e => by have := (hX k hk).1; omega
  have hh : ∀ k, X k → (u.setCell ⟨g, j, none⟩ v).heap[k]? = u.heap[k]? := fun k hk => Below.heap_setCell _ _ _ _ (hne k hk)
  obtain ⟨cc, mo, iv, tv', vs, a⟩ := a
  refine ⟨X, ⟨L, L', ⟨_, _, _, _, _, a.kept (by simp) (fun k hk => hh k (c k hk))⟩, ⟨_, _, _, _, _, b.kept (by simp) (fun k hk => hh k (e k hk))⟩, c, e, f⟩, fun k hk => ⟨(hX k hk).1, by simpa using (hX k hk).2⟩⟩

theorem ft_init (fs : List UInt8 → Option (List UInt8)) (s : ByteArray) : FT (initSt fs s) := fun i hi hk => by
  exfalso
  simp only [initSt, initDs] at hk
  revert hk
  split
  · simp
  · split
    · simp
    · split <;> simp [noDe]

/-- New of both -/
theorem inv_new {w u u2 : World} {p q N : Nat} {S : St} (h : Own w u p N S) (h2 : ROwn u u2 q N S) : Inv w u2 p q N S := by
  obtain ⟨L, a, t, hl⟩ := h
  obtain ⟨L', b, t', hl'⟩ := h2
  have hb : ∀ k, L' k ≠ none → k < u2.heap.size := by obtain ⟨_, _, _, _, _, b⟩ := b; exact b.lt
  refine ⟨t.then t', fun k => L k ≠ none ∨ L' k ≠ none, ⟨L, L', a.no t', b, fun k => .inl, fun k => .inr, fun k hk => ?_⟩, fun k hk => ?_⟩
  · exact Classical.byContradiction (fun e => by have := hl' k e; have := a.lt k hk; omega)
  · rcases hk with e | e
    · exact ⟨hl k e, Nat.lt_of_lt_of_le (a.lt k e) t'.size⟩
    · exact ⟨Nat.le_trans t.size (hl' k e), hb k e⟩
end Go.Proofs.Ytkbdgdcicflocaa
