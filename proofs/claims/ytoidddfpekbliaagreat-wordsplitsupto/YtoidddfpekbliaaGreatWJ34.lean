/-
  word: New.
-/
import Derived.Test.YtoidddfpekbliaaGreatWJ33
import Derived.Test.YtoidddfpekbliaaGreatWJ07
import Derived.Test.YtoidddfpekbliaaGreatWJ06
namespace Go.Proofs.YtoidddfpekbliaaGreat
set_option linter.unusedSimpArgs false
set_option linter.unusedVariables false
open Go.RowKit
attribute [local go_sem ↓] Go.wp_at_zero Go.wp_at_succ

/-- how great the data are -/
def Wp.sd (p : Wp) : Nat := p.data.length + p.zero.toNat
/-- memory at first -/
def Wp.mem (p : Wp) (heap : Nat) : Mem := ⟨p.sd, heap, fillW p.data (fun _ => 0) ((p.data.length + 7) / 8), fun _ => 0⟩
def NwPost (p : Wp) (heap : Nat) (strict : Bool) (pw N : Nat) (S : St) (w : World) (Lw : Nat → Option Lab) (e : Ending) (w' : World) : Prop :=
  ∃ pb fb L, e = .returned (.tuple #[.pointer (some ⟨pb, 0, none⟩), .int .i64 0]) ∧ PA pb (N + (p.data.length + 7) / 8) fb pw (readyP p) strict (PSt.first (p.mem heap) S) w' L Lw ∧ Tn No w w' ∧ ∀ k, k < w.heap.size → L k = none

set_option maxHeartbeats 8000000 in
set_option maxRecDepth 100000 in
theorem pnew_no (p : Wp) (w : World) (hp : PgA w p) (hm : mayP p = false) (heap : Int) (strict : Bool) (wv : Value) :
    Calls Tryz.prog 15 #[p.val, .int .u64 heap, .bool strict, wv] w fun e w' => e = .returned (.tuple #[.pointer none, .int .i64 130]) ∧ Tn No w w' := by
  have HM : Hid (∀ u, Tn No w u → Calls Tryz.prog 32 #[p.val] u fun e w' => e = .returned (.bool false) ∧ Tn No u w') := hid (fun u t => by rw [← hm]; exact mayBe_raw p u (hp.no t))
  have hfu := hp.funs.form
  have hda := hp.data.form
  obtain ⟨fv, funs, dv, data, zero⟩ := p
  simp only [Wp.val] at *
  obtain ⟨fd, fc, rfl⟩ := hfu
  obtain ⟨da, dc, rfl⟩ := hda
  have HT : Hid (∀ o, Tn No w (w.alloc o)) := hid (fun o => (Tn.refl No w).alloc o)
  clear hp hm
  go_enter Tryz.func15, Tryz.ntmps15
  go_wp2_with (go_at_call 32; refine (HM.out _ (HT.out _)).mono ?_; rintro e w2 ⟨rfl, t2⟩)
  go_ret2
  exact ⟨rfl, (HT.out _).then t2⟩

set_option maxHeartbeats 8000000 in
set_option maxRecDepth 100000 in
theorem pnew_raw (p : Wp) (w : World) (hp : PgA w p) (hm : mayP p = true) (heap : Nat) (h1 : 65536 ≤ heap) (h2 : heap ≤ 1099511627776) (strict : Bool) (pw N : Nat) (Lw : Nat → Option Lab) (S : St) (hpw : PW w pw Lw N S) (hN : N ≤ 4611686017000000000) :
    Calls Tryz.prog 15 #[p.val, .int .u64 (heap : Int), .bool strict, .pointer (some ⟨pw, 0, none⟩)] w (NwPost p heap strict pw N S w Lw) := by
  have hk := pok_of hm
  have hz := hk.zero
  have hdl := hp.dlen
  have HM : Hid (∀ u, Tn No w u → Calls Tryz.prog 32 #[p.val] u fun e w' => e = .returned (.bool true) ∧ Tn No u w') := hid (fun u t => by rw [← hm]; exact mayBe_raw p u (hp.no t))
  have HRD : Hid (∀ u, Tn No w u → Calls Tryz.prog 42 #[p.val] u fun e w' => ∃ fb, e = .returned (.slice (some ⟨fb, 0, none⟩) p.funs.length p.funs.length) ∧ RD w fb p.funs.length p.funs p.funs.length w' ∧ w.heap.size ≤ fb ∧ Tn No u w') := hid (fun u t => by
    refine (ready_raw p u (hp.no t) hk).mono ?_
    rintro e w' ⟨fb, rfl, hrd, hfb⟩
    exact ⟨fb, rfl, hrd.base t, Nat.le_trans t.size hfb, hrd.tn⟩)
  have hfl : 0 < p.funs.length := by obtain ⟨f, r, e, _⟩ := hk.first; rw [e]; simp
  have hfu := hp.funs.form
  have hda := hp.data.form
  have hsd : p.sd = p.data.length + p.zero.toNat := rfl
  have hsd1 : p.sd ≤ 268435456 := by rw [hsd]; omega
  have HTAIL : Hid (∀ (fb nh nd pb : Nat) (wv : World), NwP w p fb pw strict p.sd heap pb pb nd nh wv → Tn No w wv → w.heap.size ≤ pb → pb ≤ wv.heap.size → ∀ u, Tn No wv u → Calls Tryz.prog 44 #[.pointer (some ⟨pb, 1, none⟩), p.dv] u fun e w' => e = .returned (.tuple #[]) ∧ w'.cell? ⟨pb, 0, none⟩ = some (.slice (some ⟨fb, 0, none⟩) p.funs.length p.funs.length) ∧ pb < w'.heap.size ∧ (∀ k, k < pb → w'.heap[k]? = u.heap[k]?) ∧
      ∀ w8, Tn No w' w8 → Calls Tryz.prog 45 #[.pointer (some ⟨pb, 0, none⟩), .pointer (some ⟨fb, 0, none⟩), .slice none 0 0] w8 fun e w9 => e = .returned (.tuple #[]) ∧ NwPost p heap strict pw N S w Lw (.returned (.tuple #[.pointer (some ⟨pb, 0, none⟩), .int .i64 0])) w9) := hid (fun fb nh nd pb wv hn ht hr hrv u tu => by
    refine (new_tail hk hn ht hr hrv hpw (by omega) hp (by omega) h2 u tu).mono ?_
    rintro e w' ⟨rfl, g1, g2, gk, g3⟩
    refine ⟨rfl, g1, g2, fun k hk' => gk k hk' hk', fun w8 t8 => (g3 w8 t8).mono ?_⟩
    rintro e w9 ⟨rfl, L9, k1, k2, k3⟩
    exact ⟨rfl, pb, fb, L9, rfl, k1, k2, k3⟩)
  have HNW : Hid (∀ (w3 w5 w7 : World) (fb nh nd : Nat), RD w fb p.funs.length p.funs p.funs.length w3 → w.heap.size ≤ fb → Tn No (w3.alloc (.cells (box18 fb p.funs.length pw strict) 114)) w5 → CB w5 nh (nears heap) (fun _ => .pointer none) → (w3.alloc (.cells (box18 fb p.funs.length pw strict) 114)).heap.size ≤ nh →
      Tn No (put4 w5 w3.heap.size 5 (.int .u64 1073741824) (.int .u64 (heap : Int)) (.slice (some ⟨nh, 0, none⟩) (nears heap) (nears heap)) (.map none)) w7 → CB w7 nd (nears p.sd) (fun _ => .pointer none) → w5.heap.size ≤ nd →
      NwP w p fb pw strict p.sd heap w3.heap.size w3.heap.size nd nh (put4 w7 w3.heap.size 1 (.int .u64 268435456) (.int .u64 (p.sd : Int)) (.slice (some ⟨nd, 0, none⟩) (nears p.sd) (nears p.sd)) (.map none)) ∧ Tn No w (put4 w7 w3.heap.size 1 (.int .u64 268435456) (.int .u64 (p.sd : Int)) (.slice (some ⟨nd, 0, none⟩) (nears p.sd) (nears p.sd)) (.map none)) ∧ w3.heap.size < w7.heap.size) :=
    hid (fun w3 w5 w7 fb nh nd a1 a2 a3 a4 a5 a6 a7 a8 => nwp_of 114 a1 a2 a3 a4 a5 a6 a7 a8)
  have hH1 : (65536 : Int) ≤ (heap : Int) := by omega
  have hH2 : (heap : Int) ≤ 1099511627776 := by omega
  obtain ⟨sd, hsde⟩ : ∃ sd, p.sd = sd := ⟨_, rfl⟩
  rw [hsde] at HTAIL HNW hsd hsd1
  have hz0 := hz.1
  have hz1 : p.zero ≤ 268435456 := by omega
  have hsum : (p.data.length : Int) + p.zero = (sd : Int) := by omega
  obtain ⟨n, hn⟩ : ∃ n, p.funs.length = n := ⟨_, rfl⟩
  rw [hn] at HTAIL HNW HRD hfl
  obtain ⟨POST, hPOST⟩ : ∃ POST, NwPost p heap strict pw N S w Lw = POST := ⟨_, rfl⟩
  rw [hPOST] at HTAIL ⊢
  obtain ⟨fd, fc, hfu⟩ := hfu
  obtain ⟨da, dc, hda⟩ := hda
  obtain ⟨dn, hdn⟩ : ∃ dn, p.data.length = dn := ⟨_, rfl⟩
  obtain ⟨z, hzz⟩ : ∃ z, p.zero = z := ⟨_, rfl⟩
  rw [hdn] at hda hsum hdl
  rw [hzz] at hsum hz0 hz1
  rw [hn] at hfu
  have hval : p.val = .agg #[.slice fd n fc, .slice da dn dc, .int .i64 z] := by unfold Wp.val; rw [hfu, hda, hzz]
  rw [hval] at HM HRD ⊢
  rw [hda] at HTAIL
  have HA1 : Hid (∀ u, Calls Tryz.prog 43 #[.int .u64 1073741824, .int .u64 (heap : Int)] u fun e w' => ∃ nb, e = .returned (.agg #[.int .u64 1073741824, .int .u64 (heap : Int), .slice (some ⟨nb, 0, none⟩) (nears heap) (nears heap), .map none]) ∧ CB w' nb (nears heap) (fun _ => .pointer none) ∧ u.heap.size ≤ nb ∧ Tn No u w') := hid (fun u => newArea_raw 1073741824 heap u h2)
  have HA2 : Hid (∀ u, Calls Tryz.prog 43 #[.int .u64 268435456, .int .u64 (sd : Int)] u fun e w' => ∃ nb, e = .returned (.agg #[.int .u64 268435456, .int .u64 (sd : Int), .slice (some ⟨nb, 0, none⟩) (nears sd) (nears sd), .map none]) ∧ CB w' nb (nears sd) (fun _ => .pointer none) ∧ u.heap.size ≤ nb ∧ Tn No u w') := hid (fun u => newArea_raw 268435456 sd u (by omega))
  have HBX : Hid (∀ u, Tn No (w.alloc (.cells #[.slice fd n fc, .slice da dn dc, .int .i64 z] 25)) u → u.cell? ⟨w.heap.size, 0, none⟩ = some (.slice fd n fc) ∧ u.cell? ⟨w.heap.size, 1, none⟩ = some (.slice da dn dc) ∧ u.cell? ⟨w.heap.size, 2, none⟩ = some (.int .i64 z) ∧ w.heap.size < u.heap.size ∧ Tn No w u) := hid (fun u t => by
    have ex : ∀ i, u.cell? ⟨w.heap.size, i, none⟩ = #[.slice fd n fc, .slice da dn dc, .int .i64 z][i]? := fun i => by
      rw [t.cell (by simp) (fun e => e)]
      exact World.cell?_alloc_mark _ _ _ _ i
    exact ⟨ex 0, ex 1, ex 2, by have := t.size; simp at this; omega, ((Tn.refl No w).alloc _).then t⟩)
  have HT1 : Hid (Tn No w (w.alloc (.cells #[.slice fd n fc, .slice da dn dc, .int .i64 z] 25))) := hid ((Tn.refl No w).alloc _)
  have HB4 : Hid (∀ (w3 : World) (fb : Nat) u, Tn No (w3.alloc (.cells (box18 fb n pw strict) 114)) u → CB u w3.heap.size 18 (fun i => ((box18 fb n pw strict)[i]?).getD undef) ∧ w3.heap.size < u.heap.size) := hid (fun w3 fb u t => by
    have h := CB.new w3 (box18 fb n pw strict) 114
    have h' := h.kept (w' := u) (t.block _ h.lt (fun e => e))
    exact ⟨h', h'.lt⟩)
  have HP1 : Hid (∀ (w5 w7 : World) (pb : Nat) v0 v1 v2 v3, w.heap.size < pb → pb < w5.heap.size → w5.cell? ⟨w.heap.size, 1, none⟩ = some (.slice da dn dc) → Tn No (put4 w5 pb 5 v0 v1 v2 v3) w7 → w7.cell? ⟨w.heap.size, 1, none⟩ = some (.slice da dn dc)) := hid (fun w5 w7 pb v0 v1 v2 v3 h1 h2 h3 t => by
    rw [t.cell (by rw [put4_size]; omega) (fun e => e), World.cell?_of_block (w := w5) (a := ⟨w.heap.size, 1, none⟩) (put4_heap _ _ _ _ _ _ _ _ (by show w.heap.size ≠ pb; omega))]
    exact h3)
  have hn0 : (0 : Int) < (n : Int) := by omega
  have hnu : 0 ≤ (sd : Int) := by omega
  clear hp hm hk hz hsde hPOST hval hfu hda hzz hdn hn hsd hpw
  go_enter Tryz.func15, Tryz.ntmps15
  go_wp2_with (first
    | (go_at_call 32; refine (HM.out _ HT1.out).mono ?_; rintro e w2 ⟨rfl, t2⟩; obtain ⟨p0, p1, p2, pz, tw2⟩ := HBX.out w2 t2)
    | (go_at_call 42; refine (HRD.out w2 tw2).mono ?_; rintro e w3 ⟨fb, rfl, hrd, hfb, t3'⟩; have t3 := t2.then t3'; obtain ⟨p0, p1, p2, pz, tw3⟩ := HBX.out w3 t3; have HRDX := hid hrd; clear hrd)
    | (go_at_call_of 43 (Value.int IntKind.u64 1073741824); refine (HA1.out _).mono ?_; rintro e w5 ⟨nh, rfl, hcb5, g5, t5'⟩; have t5 : Tn No (w3.alloc (.cells (box18 fb n pw strict) 114)) w5 := t5'; obtain ⟨c5, z5⟩ := HB4.out w3 fb w5 t5; have k5 : w5.cell? ⟨w3.heap.size, 5, none⟩ = some (.int .u64 0) := c5.cell 5 (by omega); have k6 : w5.cell? ⟨w3.heap.size, 6, none⟩ = some (.int .u64 0) := c5.cell 6 (by omega); have k7 : w5.cell? ⟨w3.heap.size, 7, none⟩ = some (.slice none 0 0) := c5.cell 7 (by omega); have k8 : w5.cell? ⟨w3.heap.size, 8, none⟩ = some (.map none) := c5.cell 8 (by omega); have f5 := c5.froz; have HCB5 := hid hcb5; have HC5 := hid c5; obtain ⟨p0, p1, p2, pz5, tw5⟩ := HBX.out w5 (t3.then (((Tn.refl No w3).alloc _).then t5)); have hne1 : ¬ (w.heap.size = w3.heap.size) := Nat.ne_of_lt pz; have hne2 : ¬ (w3.heap.size = w.heap.size) := fun e => hne1 e.symm; clear hcb5 c5)
    | (go_at_call_of 43 (Value.int IntKind.u64 268435456); refine (HA2.out _).mono ?_; rintro e w7 ⟨nd, rfl, hcb7, g7, t7'⟩; have t7 : Tn No (put4 w5 w3.heap.size 5 (.int .u64 1073741824) (.int .u64 (heap : Int)) (.slice (some ⟨nh, 0, none⟩) (nears heap) (nears heap)) (.map none)) w7 := t7'; have c7 := (HC5.out.put4 (o := 5) (by omega) (.int .u64 1073741824) (.int .u64 (heap : Int)) (.slice (some ⟨nh, 0, none⟩) (nears heap) (nears heap)) (.map none)).kept (w' := w7) (t7.block _ (by rw [put4_size]; exact z5) (fun e => e)); have k1 : w7.cell? ⟨w3.heap.size, 1, none⟩ = some (.int .u64 0) := c7.cell 1 (by omega); have k2 : w7.cell? ⟨w3.heap.size, 2, none⟩ = some (.int .u64 0) := c7.cell 2 (by omega); have k3 : w7.cell? ⟨w3.heap.size, 3, none⟩ = some (.slice none 0 0) := c7.cell 3 (by omega); have k4 : w7.cell? ⟨w3.heap.size, 4, none⟩ = some (.map none) := c7.cell 4 (by omega); have f7 := c7.froz; have q1 := HP1.out w5 w7 w3.heap.size _ _ _ _ pz z5 p1 t7; have HN7 := hid (HNW.out w3 w5 w7 fb nh nd HRDX.out hfb t5 HCB5.out g5 t7 hcb7 (by have := g7; simpa using this)); clear hcb7 c7))
  obtain ⟨hn7, tn7, hl7⟩ := HN7.out
  have r1 : (put4 w7 w3.heap.size 1 (.int .u64 268435456) (.int .u64 (sd : Int)) (.slice (some ⟨nd, 0, none⟩) (nears sd) (nears sd)) (.map none)).cell? ⟨w.heap.size, 1, none⟩ = some (.slice da dn dc) := by
    rw [World.cell?_of_block (w := w7) (a := ⟨w.heap.size, 1, none⟩) (put4_heap _ _ _ _ _ _ _ _ hne1)]; exact q1
  have HF := HTAIL.out fb nh nd w3.heap.size _ hn7 tn7 tw3.size (by rw [put4_size]; omega)
  obtain ⟨wv, hwv⟩ : ∃ wv, put4 w7 w3.heap.size 1 (.int .u64 268435456) (.int .u64 (sd : Int)) (.slice (some ⟨nd, 0, none⟩) (nears sd) (nears sd)) (.map none) = wv := ⟨_, rfl⟩
  rw [hwv] at r1 HF
  simp only [put4, Nat.reduceAdd] at hwv
  rw [hwv]
  have HF2 : Hid (∀ u, Tn No wv u → Calls Tryz.prog 44 #[.pointer (some ⟨w3.heap.size, 1, none⟩), .slice da dn dc] u fun e w' => e = .returned (.tuple #[]) ∧ w'.cell? ⟨w3.heap.size, 0, none⟩ = some (.slice (some ⟨fb, 0, none⟩) n n) ∧ w3.heap.size < w'.heap.size ∧ w'.cell? ⟨w.heap.size, 1, none⟩ = some (.slice da dn dc) ∧
      ∀ w8, Tn No w' w8 → Calls Tryz.prog 45 #[.pointer (some ⟨w3.heap.size, 0, none⟩), .pointer (some ⟨fb, 0, none⟩), .slice none 0 0] w8 fun e w9 => e = .returned (.tuple #[]) ∧ POST (.returned (.tuple #[.pointer (some ⟨w3.heap.size, 0, none⟩), .int .i64 0])) w9) := hid (fun u tu => by
    refine (HF u tu).mono ?_
    rintro e w' ⟨rfl, g1, g2, g3, g4⟩
    refine ⟨rfl, g1, g2, ?_, g4⟩
    rw [World.cell?_of_block (w := u) (a := ⟨w.heap.size, 1, none⟩) (g3 _ pz), tu.cell (World.block_lt_of_cell? _ _ r1) (fun e => e)]
    exact r1)
  clear HF hwv hn7 tn7 hl7 HN7 q1 k1 k2 k3 k4 f7 t7 t7' g7 p0 p1 p2 k5 k6 k7 k8 f5 t5 t5' HTAIL HNW HRDX HCB5 HC5 HB4 HP1 HBX HA1 HA2 HM HRD
  go_region_held3 (fun w' => w'.cell? ⟨w.heap.size, 1, none⟩ = some (.slice da dn dc)) (go_keep) (first
    | (go_at_call 44; refine (HF2.out _ (by repeat (first | exact Tn.refl _ _ | apply Tn.drew | apply Tn.drewN | apply Tn.alloc | (refine Tn.then ?_ (by assumption)) | (refine Tn.thenNo ?_ (by assumption))))).mono ?_; rintro e w10 ⟨rfl, k0, kz, r10, hpush⟩; have HPU := hid hpush; clear hpush))
  go_wp2_with (first
    | (go_at_call 45; refine (HPU.out _ (by repeat (first | exact Tn.refl _ _ | apply Tn.drew | apply Tn.drewN))).mono ?_; rintro e w11 ⟨rfl, hpost⟩; have HPO := hid hpost; clear hpost))
  exact HPO.out
end Go.Proofs.YtoidddfpekbliaaGreat
namespace Go.Proofs.YtoidddfpekbliaaGreat
set_option linter.unusedSimpArgs false
set_option linter.unusedVariables false
open Go.RowKit

section
variable {p N fb pw : Nat} {R : List RFun} {strict : Bool} {X : PSt} {b cap : Nat} {vd vh : Value} {fc c : Nat → Value} {w : World} {L : Nat → Option Lb} {Lw : Nat → Option Lab}

/-- a process stays where others' blocks turn -/
theorem PR.tn {F : Nat → Prop} {w' : World} (h : PR p N fb pw R strict X b cap vd vh fc c w L Lw) (t : Tn F w w') (hF : ∀ k, F k → L k = none ∧ Lw k = none) : PR p N fb pw R strict X b cap vd vh fc c w' L Lw := by
  have hk : ∀ k l, L k = some l → w'.heap[k]? = w.heap[k]? := fun k l e => t.block k (h.lt k (by rw [e]; simp)) (fun q => by rw [(hF k q).1] at e; cases e)
  have hlt : ∀ k, L k ≠ none → k < w'.heap.size := fun k hk => Nat.lt_of_lt_of_le (h.lt k hk) t.size
  have hcb := h.ox.bx.pc.kept (hk p _ h.ox.bx.lp)
  exact { h with
    ox := h.ox.kept (fun k l e _ => ⟨hk k l e, e⟩) hcb h.ox.bx.lp rfl rfl hlt
    mb := h.mb.keptq (fun k l e _ => ⟨hk k l e, e⟩) hcb h.ox.bx.lp (fun _ _ _ => rfl) hlt
    pg := h.pg.kept (fun k e => hk k _ e) (fun _ e => e)
    pw := h.pw.tn t (fun k e => (hF k e).2) }
theorem PA.tn {F : Nat → Prop} {w' : World} (h : PA p N fb pw R strict X w L Lw) (t : Tn F w w') (hF : ∀ k, F k → L k = none ∧ Lw k = none) : PA p N fb pw R strict X w' L Lw := by
  obtain ⟨b, cap, vd, vh, fc, c, g⟩ := h
  exact ⟨b, cap, vd, vh, fc, c, g.tn t hF⟩
theorem PA.mono {M : Nat} (h : PA p N fb pw R strict X w L Lw) (hN : N ≤ M) : PA p M fb pw R strict X w L Lw := by
  obtain ⟨b, cap, vd, vh, fc, c, g⟩ := h
  exact ⟨b, cap, vd, vh, fc, c, g.mono hN⟩
theorem PA.lt (h : PA p N fb pw R strict X w L Lw) : (∀ k, L k ≠ none → k < w.heap.size) ∧ (∀ k, Lw k ≠ none → k < w.heap.size) := by
  obtain ⟨b, cap, vd, vh, fc, c, g⟩ := h
  exact ⟨g.lt, g.pw.lt⟩
theorem PA.world (h : PA p N fb pw R strict X w L Lw) : PW w pw Lw N X.S := by
  obtain ⟨b, cap, vd, vh, fc, c, g⟩ := h
  exact g.pw
end

/-- two processes, that have no block in common -/
def TP (w0 : World) (R1 R2 : List RFun) (s1 s2 : Bool) (p1 f1 u1 p2 f2 u2 N1 N2 : Nat) (X Y : PSt) (w : World) : Prop :=
  ∃ L1 M1 L2 M2, PA p1 N1 f1 u1 R1 s1 X w L1 M1 ∧ PA p2 N2 f2 u2 R2 s2 Y w L2 M2 ∧ (∀ k, L1 k ≠ none ∨ M1 k ≠ none → w0.heap.size ≤ k ∧ L2 k = none ∧ M2 k = none) ∧ (∀ k, L2 k ≠ none ∨ M2 k ≠ none → w0.heap.size ≤ k) ∧ Tn No w0 w

section
variable {w0 : World} {R1 R2 : List RFun} {s1 s2 : Bool} {p1 f1 u1 p2 f2 u2 N1 N2 : Nat} {X Y : PSt} {w : World}

theorem TP.swap (h : TP w0 R1 R2 s1 s2 p1 f1 u1 p2 f2 u2 N1 N2 X Y w) : TP w0 R2 R1 s2 s1 p2 f2 u2 p1 f1 u1 N2 N1 Y X w := by
  obtain ⟨L1, M1, L2, M2, g1, g2, g3, g4, g5⟩ := h
  refine ⟨L2, M2, L1, M1, g2, g1, fun k hk => ⟨g4 k hk, ?_, ?_⟩, fun k hk => (g3 k hk).1, g5⟩
  · apply Classical.byContradiction
    intro hc
    obtain ⟨_, e1, e2⟩ := g3 k (.inl hc)
    rcases hk with hk | hk
    · exact hk e1
    · exact hk e2
  · apply Classical.byContradiction
    intro hc
    obtain ⟨_, e1, e2⟩ := g3 k (.inr hc)
    rcases hk with hk | hk
    · exact hk e1
    · exact hk e2
theorem TP.no {w' : World} (h : TP w0 R1 R2 s1 s2 p1 f1 u1 p2 f2 u2 N1 N2 X Y w) (t : Tn No w w') : TP w0 R1 R2 s1 s2 p1 f1 u1 p2 f2 u2 N1 N2 X Y w' := by
  obtain ⟨L1, M1, L2, M2, g1, g2, g3, g4, g5⟩ := h
  exact ⟨L1, M1, L2, M2, g1.tn t (fun _ e => e.elim), g2.tn t (fun _ e => e.elim), g3, g4, g5.then t⟩
theorem TP.old (h : TP w0 R1 R2 s1 s2 p1 f1 u1 p2 f2 u2 N1 N2 X Y w) : Tn No w0 w := by
  obtain ⟨L1, M1, L2, M2, g1, g2, g3, g4, g5⟩ := h
  exact g5

/-- the first one goes on -/
theorem TP.left {X' : PSt} {K : Nat} {w' : World} {L1 L2 : Nat → Option Lb} {M1 M2 : Nat → Option Lab} (g1 : PA p1 N1 f1 u1 R1 s1 X w L1 M1) (g2 : PA p2 N2 f2 u2 R2 s2 Y w L2 M2) (g3 : ∀ k, L1 k ≠ none ∨ M1 k ≠ none → w0.heap.size ≤ k ∧ L2 k = none ∧ M2 k = none) (g4 : ∀ k, L2 k ≠ none ∨ M2 k ≠ none → w0.heap.size ≤ k) (g5 : Tn No w0 w) (h : PL p1 K f1 u1 R1 s1 X' w L1 M1 w') :
    TP w0 R1 R2 s1 s2 p1 f1 u1 p2 f2 u2 K N2 X' Y w' := by
  obtain ⟨L1', M1', k1, k2, k3⟩ := h
  have hlt := g2.lt
  refine ⟨L1', M1', L2, M2, k1, g2.tn k2 (fun k e => (g3 k e).2), fun k hk => ?_, g4, g5.trans k2 (fun _ _ e => e) (fun i hi e => by have := (g3 i e).1; omega)⟩
  by_cases hkw : k < w.heap.size
  · have : L1 k ≠ none ∨ M1 k ≠ none := by
      apply Classical.byContradiction
      intro hc
      have h1 : L1 k = none := Classical.byContradiction (fun q => hc (.inl q))
      have h2 : M1 k = none := Classical.byContradiction (fun q => hc (.inr q))
      obtain ⟨q1, q2⟩ := k3 k hkw h1 h2
      rcases hk with hk | hk
      · exact hk q1
      · exact hk q2
    exact g3 k this
  · refine ⟨by have := g5.size; omega, ?_, ?_⟩
    · apply Classical.byContradiction
      intro hc; have := hlt.1 k hc; omega
    · apply Classical.byContradiction
      intro hc; have := hlt.2 k hc; omega

/-- the first one runs on -/
theorem TP.run (hR : RWF R1) (hRK : RKd R1) {B : Nat} (hok : POk R1 B X) (hB : B ≤ 1099511627776) (k : Nat) (hk : k ≤ 1099511627776) (hN : N1 + k * (2 * B + 8) ≤ 545460846592) (hS : X.steps ≤ 1099511627776) (h : TP w0 R1 R2 s1 s2 p1 f1 u1 p2 f2 u2 N1 N2 X Y w) :
    Calls Tryz.prog 18 #[.pointer (some ⟨p1, 0, none⟩), .int .i64 (k : Int)] w fun e w' => e = .returned (.int .i64 (PSt.run R1 s1 k X).status) ∧ TP w0 R1 R2 s1 s2 p1 f1 u1 p2 f2 u2 (N1 + k * (2 * B + 8)) N2 (PSt.run R1 s1 k X) Y w' ∧ POk R1 B (PSt.run R1 s1 k X) ∧ (PSt.run R1 s1 k X).steps ≤ X.steps + k := by
  obtain ⟨L1, M1, L2, M2, g1, g2, g3, g4, g5⟩ := h
  refine (run_raw hR hRK g1 hok hB k hk hN hS).mono ?_
  rintro e w' ⟨rfl, hj⟩
  exact ⟨rfl, TP.left g1 g2 g3 g4 g5 hj.pl, hj.ok, hj.st⟩
theorem TP.code (h : TP w0 R1 R2 s1 s2 p1 f1 u1 p2 f2 u2 N1 N2 X Y w) : Calls Tryz.prog 28 #[.pointer (some ⟨p1, 0, none⟩)] w fun e w' => e = .returned (.int .i64 X.code) ∧ w' = w := by
  obtain ⟨L1, M1, L2, M2, g1, _⟩ := h
  exact code_raw g1
theorem TP.steps (h : TP w0 R1 R2 s1 s2 p1 f1 u1 p2 f2 u2 N1 N2 X Y w) : Calls Tryz.prog 29 #[.pointer (some ⟨p1, 0, none⟩)] w fun e w' => e = .returned (.int .i64 (X.steps : Int)) ∧ w' = w := by
  obtain ⟨L1, M1, L2, M2, g1, _⟩ := h
  exact steps_raw g1
theorem TP.trace (h : TP w0 R1 R2 s1 s2 p1 f1 u1 p2 f2 u2 N1 N2 X Y w) (hN : N1 ≤ 1099511627776) : Calls Tryz.prog 31 #[.pointer (some ⟨u1, 0, none⟩)] w (TracePost w X.S.tr) := by
  obtain ⟨L1, M1, L2, M2, g1, _⟩ := h
  exact trace_raw u1 M1 N1 X.S w g1.world hN
end

/-- a process at first may run on -/
theorem first_ok {p : Wp} (hk : POkP p) (heap : Nat) (hh : heap ≤ 268435456) (S : St) (hS : WF S) : POk (readyP p) 268435456 (PSt.first (p.mem heap) S) := by
  obtain ⟨f, r, e, hf0⟩ := hk.first
  have hz := hk.zero
  have hR : (readyP p)[0]? = some ⟨f.name, f.params.toNat, readyC f.code⟩ := by unfold readyP; rw [e]; rfl
  refine ⟨fun g hg => ?_, fun g hg => ?_, hS, ?_, hh, fun _ => by simp [PSt.first]⟩
  · simp only [PSt.first, List.mem_singleton] at hg
    subst hg
    exact fok_new (ready_wf hk) hR []
  · simp [PSt.first] at hg
  · show p.sd ≤ _
    unfold Wp.sd; omega
end Go.Proofs.YtoidddfpekbliaaGreat
namespace Go.Proofs.YtoidddfpekbliaaGreat
set_option linter.unusedSimpArgs false
set_option linter.unusedVariables false
open Go.RowKit
attribute [local go_sem ↓] Go.wp_at_zero Go.wp_at_succ

theorem pick_ex (c : Int) (n : Nat) (hc : i64ok c) (hn : 0 < n) (hn2 : n ≤ 1000000) : ∃ k : Nat, k < n ∧ ∀ w, Calls Tryz.prog 17 #[.int .i64 c, .int .i64 (n : Int)] w fun e w' => e = .returned (.int .i64 (k : Int)) ∧ w' = w := by
  obtain ⟨h1, h2⟩ := hc
  have hn0 : ((n : Int) == 0) = false := by simp; omega
  have hnp : (0 : Int) < (n : Int) := by omega
  by_cases h0 : c < 0
  · obtain ⟨m, hm⟩ : ∃ m : Nat, (m : Int) = -(c + 1) := ⟨(-(c + 1)).toNat, by omega⟩
    have hm0 : 0 ≤ (m : Int) := by omega
    have hmm : (m : Int) ≤ 9223372036854775807 := by omega
    obtain rfl : c = -(m : Int) - 1 := by omega
    have hx : -(-(m : Int) - 1 + 1) = (m : Int) := by omega
    refine ⟨m % n, Nat.mod_lt _ hn, fun w => ?_⟩
    have hr : (m : Int) % (n : Int) = ((m % n : Nat) : Int) := by simp
    clear hm
    go_enter Tryz.func17, Tryz.ntmps17
    go_wp2
    go_ret
    exact ⟨ret_int (by first | exact hr | (simp; done) | simp [hx]), rfl⟩
  · obtain ⟨m, rfl⟩ : ∃ m : Nat, c = m := ⟨c.toNat, by omega⟩
    have hm0 : 0 ≤ (m : Int) := by omega
    refine ⟨m % n, Nat.mod_lt _ hn, fun w => ?_⟩
    have hr : (m : Int) % (n : Int) = ((m % n : Nat) : Int) := by simp
    clear h0
    go_enter Tryz.func17, Tryz.ntmps17
    go_wp2
    go_ret
    exact ⟨ret_int (by first | exact hr | (simp; done)), rfl⟩

set_option maxHeartbeats 4000000 in
set_option maxRecDepth 100000 in
theorem lsize_raw (p : Wp) (w : World) (hp : PgA w p) : Calls Tryz.prog 10 #[p.val] w fun e w' => (∃ v, e = .returned (.int .i64 v)) ∧ Tn No w w' := by
  have HFO : Hid (∀ f ∈ p.funs, (∃ a c, f.cv = .slice a f.code.length c) ∧ i64ok f.params ∧ i64ok f.regs ∧ i64ok f.slots ∧ f.code.length ≤ 1073741824) := hid (fun f hf => ⟨(hp.each f hf).code.form, (hp.each f hf).ok.1, (hp.each f hf).ok.2.1, (hp.each f hf).ok.2.2, (hp.each f hf).len⟩)
  have hdf := hp.data.form
  have hpf := hp.funs
  have hpl := hp.len
  obtain ⟨fv, funs, dv, data, zero⟩ := p
  simp only [Wp.val] at *
  obtain ⟨da, dc, rfl⟩ := hdf
  obtain ⟨fd, fc, rfl, hfc, hfm, hat⟩ := hpf
  generalize data.length = dn at *
  have HAT := hid hat
  obtain ⟨fn, hfn⟩ : ∃ fn, funs.length = fn := ⟨_, rfl⟩
  have HN := hid hfn
  rw [hfn] at hfc hpl
  rw [hfn]
  have HBX : Hid (∀ u, Tn No (w.alloc (.cells #[.slice fd fn fc, .slice da dn dc, .int .i64 zero] 25)) u → u.cell? ⟨w.heap.size, 0, none⟩ = some (.slice fd fn fc) ∧ w.heap.size < u.heap.size ∧ Tn No w u) := hid (fun u t => by
    have ex : ∀ i, u.cell? ⟨w.heap.size, i, none⟩ = #[.slice fd fn fc, .slice da dn dc, .int .i64 zero][i]? := fun i => by
      rw [t.cell (by simp) (fun e => e)]
      exact World.cell?_alloc_mark _ _ _ _ i
    exact ⟨ex 0, by have := t.size; simp at this; omega, ((Tn.refl No w).alloc _).then t⟩)
  have HT0 : Hid (Tn No (w.alloc (.cells #[.slice fd fn fc, .slice da dn dc, .int .i64 zero] 25)) (w.alloc (.cells #[.slice fd fn fc, .slice da dn dc, .int .i64 zero] 25))) := hid (Tn.refl _ _)
  clear hp hat hfn
  go_enter Tryz.func10, Tryz.ntmps10
  go_wp2_with fail
  go_loopw [3, 4] (fun nv i wr => ∃ q : Nat, q ≤ fn ∧ i = .int .i64 (q : Int) ∧ (∃ N : Int, nv = .int .i64 N) ∧ Hid (Tn No (w.alloc (.cells #[.slice fd fn fc, .slice da dn dc, .int .i64 zero] 25)) wr)) (fun _ i _ => fn - (intOf i).toNat)
  case atStart => exact ⟨0, by omega, rfl, ⟨0, rfl⟩, HT0⟩
  case round =>
    obtain ⟨q, hq, rfl, ⟨M, rfl⟩, HTR⟩ := hrel
    clear HT0
    obtain ⟨p0, pz, twr⟩ := HBX.out wr HTR.out
    have HTW := hid twr
    by_cases hlt : q < fn
    · have hql : q < funs.length := by have := HN.out; omega
      obtain ⟨g, o, rfl, hg, hcell⟩ := HAT.out (by omega)
      have hcr : ∀ i (hi : i < funs.length) j, j < 5 → wr.cell? ⟨g, o + (i * 5 + j), none⟩ = (eF funs[i])[j]? := fun i hi j hj => by rw [twr.cell hg (fun e => e)]; exact hcell i hi j hj
      obtain ⟨q0, q1, q2, q3, q4⟩ := fun_cells hcr q hql
      obtain ⟨⟨va, vc', hxv⟩, hpa, hre, hsl, hcl⟩ := HFO.out funs[q] (List.getElem_mem hql)
      obtain ⟨x, hx⟩ : ∃ x, funs[q] = x := ⟨_, rfl⟩
      rw [hx] at q0 q1 q2 q3 q4 hxv hpa hre hsl hcl
      obtain ⟨nm, pa, re, sl, cv, code⟩ := x
      simp only at q0 q1 q2 q3 q4 hxv hpa hre hsl hcl
      subst hxv
      obtain ⟨r1, r2⟩ := hre
      obtain ⟨s1, s2⟩ := hsl
      generalize code.length = vn at *
      have hqi : (q : Int) < (fn : Int) := by omega
      have HTB : Hid (∀ A, Tn No wr (wr.alloc A)) := hid (fun A => (Tn.refl No wr).alloc A)
      clear hcr hx hcell HAT HFO hg HBX twr hpa
      by_cases c1 : 4000 < re
      · go_wp2_with fail
        go_ret
        exact ⟨⟨_, rfl⟩, HTW.out.then (HTB.out _)⟩
      by_cases c2 : 4000 < sl
      · have c1' : re ≤ 4000 := by omega
        clear c1
        go_wp2_with fail
        go_ret
        exact ⟨⟨_, rfl⟩, HTW.out.then (HTB.out _)⟩
      by_cases c3 : 4000 < (vn : Int)
      · have c1' : re ≤ 4000 := by omega
        have c2' : sl ≤ 4000 := by omega
        clear c1 c2
        go_wp2_with fail
        go_ret
        exact ⟨⟨_, rfl⟩, HTW.out.then (HTB.out _)⟩
      by_cases c4 : 4000 < M
      · have c1' : re ≤ 4000 := by omega
        have c2' : sl ≤ 4000 := by omega
        have c3' : (vn : Int) ≤ 4000 := by omega
        clear c1 c2 c3
        go_wp2_with fail
        go_ret
        exact ⟨⟨_, rfl⟩, HTW.out.then (HTB.out _)⟩
      · have c1' : re ≤ 4000 := by omega
        have c2' : sl ≤ 4000 := by omega
        have c3' : (vn : Int) ≤ 4000 := by omega
        have c4' : M ≤ 4000 := by omega
        clear c1 c2 c3 c4
        go_wp2_with fail
        go_roundw
        case rel => exact ⟨q + 1, by omega, by go_num, ⟨_, rfl⟩, hid (HTR.out.then (HTB.out _))⟩
        case measure => simp [intOf]; omega
    · obtain rfl : q = fn := by omega
      clear HAT HFO HBX
      go_wp2_with fail
      go_ret
      exact ⟨⟨_, rfl⟩, HTW.out⟩
end Go.Proofs.YtoidddfpekbliaaGreat
namespace Go.Proofs.YtoidddfpekbliaaGreat
set_option linter.unusedSimpArgs false
set_option linter.unusedVariables false
open Go.RowKit
attribute [local go_sem ↓] Go.wp_at_zero Go.wp_at_succ

set_option maxHeartbeats 2000000 in
set_option maxRecDepth 100000 in
theorem same_raw (w : World) (va vb : Value) (tr : List Ev) (ha : TV w va tr) (hb : TV w vb tr) (hN : tr.length ≤ 1099511627776) :
    Calls Tryz.prog 30 #[va, vb] w fun e w' => e = .returned (.bool true) ∧ Tn No w w' := by
  obtain ⟨a, ca, rfl, ha1, ha2, hanil, hasome⟩ := ha.rw.form
  obtain ⟨b, cb, rfl, hb1, hb2, hbnil, hbsome⟩ := hb.rw.form
  obtain ⟨n, hn⟩ : ∃ n, tr.length = n := ⟨_, rfl⟩
  rw [hn] at ha1 hb1 hanil hbnil hN ⊢
  have HA := hid ha
  have HB := hid hb
  have HN := hid hn
  rw [hn] at HA HB
  have HAN := hid hanil
  have HBN := hid hbnil
  have HAS := hid hasome
  have HBS := hid hbsome
  clear ha hb hn hanil hbnil hasome hbsome ha2 hb2
  go_enter Tryz.func30, Tryz.ntmps30
  go_wp2
  go_loopw [5] (fun i wr => ∃ k : Nat, k ≤ n ∧ i = .int .i64 (k : Int) ∧ Tn No w wr) (fun i _ => n - (intOf i).toNat)
  case atStart => exact ⟨0, by omega, rfl, Tn.refl No w⟩
  case round =>
    obtain ⟨k, hk, rfl, ht⟩ := hrel
    by_cases hlt : k < n
    · cases a with
      | none => have := (HAN.out rfl).1; omega
      | some x =>
      cases b with
      | none => have := (HBN.out rfl).1; omega
      | some y =>
      obtain ⟨hxe, hxl⟩ := HAS.out x rfl
      obtain ⟨hye, hyl⟩ := HBS.out y rfl
      obtain ⟨g, o, sp⟩ := x
      obtain ⟨g', o', sp'⟩ := y
      cases hxe
      cases hye
      obtain ⟨e, he⟩ : ∃ e, tr[k]? = some e := ⟨_, List.getElem?_eq_getElem (by have := HN.out; omega)⟩
      obtain ⟨x0, x1, x2⟩ := HA.out.ev k e he
      obtain ⟨y0, y1, y2⟩ := HB.out.ev k e he
      rw [Nat.mul_comm 3 k] at x0 x1 x2 y0 y1 y2
      have x0 : wr.cell? ⟨g, k * 3, none⟩ = _ := (ht.cell hxl (fun e => e)).trans x0
      have x1 : wr.cell? ⟨g, k * 3 + 1, none⟩ = _ := (ht.cell hxl (fun e => e)).trans x1
      have x2 : wr.cell? ⟨g, k * 3 + 2, none⟩ = _ := (ht.cell hxl (fun e => e)).trans x2
      have y0 : wr.cell? ⟨g', k * 3, none⟩ = _ := (ht.cell hyl (fun e => e)).trans y0
      have y1 : wr.cell? ⟨g', k * 3 + 1, none⟩ = _ := (ht.cell hyl (fun e => e)).trans y1
      have y2 : wr.cell? ⟨g', k * 3 + 2, none⟩ = _ := (ht.cell hyl (fun e => e)).trans y2
      have hki : (k : Int) < (n : Int) := by omega
      have hgl : g < wr.heap.size := Nat.lt_of_lt_of_le hxl ht.size
      have hgl' : g' < wr.heap.size := Nat.lt_of_lt_of_le hyl ht.size
      clear he HA HB HAN HBN HAS HBS
      go_wp2_with fail
      go_quiet (fail)
      go_wp2_with fail
      exact ⟨⟨k + 1, by omega, by go_num, ht.drewN _⟩, by simp [intOf]; omega⟩
    · obtain rfl : k = n := by omega
      go_wp2
      go_ret
      exact ⟨rfl, ht⟩
end Go.Proofs.YtoidddfpekbliaaGreat
