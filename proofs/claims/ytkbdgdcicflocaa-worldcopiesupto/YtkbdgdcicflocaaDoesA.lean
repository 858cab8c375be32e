/-
  A step of both worlds.
-/
import Derived.Test.YtkbdgdcicflocaaPairA
namespace Go.Proofs.Ytkbdgdcicflocaa
set_option linter.unusedSimpArgs false
set_option linter.unusedVariables false
open Go.RowKit
attribute [local go_sem ↓] Go.wp_at_zero Go.wp_at_succ

/-- both answered alike, and are alike again -/
def DoPost (u : World) (p q : Nat) (X : Nat → Prop) (N : Nat) (S : St) (e : Ending) (u' : World) : Prop :=
  e = .returned (.bool true) ∧ PL u p q X u' N S N S

theorem PL.mono {u u' : World} {p q N N2 M M2 : Nat} {S S2 : St} {X : Nat → Prop} (h : PL u p q X u' N S N2 S2) (h1 : N ≤ M) (h2 : N2 ≤ M2) : PL u p q X u' M S M2 S2 := by
  obtain ⟨X', ⟨L, L', a, ⟨fl, d, lv, tv, bv, b⟩, r⟩, s⟩ := h
  exact ⟨X', ⟨L, L', a.mono h1, ⟨fl, d, lv, tv, bv, b.mono h2⟩, r⟩, s⟩

theorem PL.under {u u1 u' : World} {p q N N2 : Nat} {S S2 : St} {X : Nat → Prop} (t : Tn No u u1) (h : PL u1 p q X u' N S N2 S2) : PL u p q X u' N S N2 S2 := by
  obtain ⟨X', a, b, c⟩ := h
  exact ⟨X', a, t.trans b (fun _ _ e => e.elim) (fun _ _ e => e), fun k hk => c k (Nat.lt_of_lt_of_le hk t.size)⟩
/-- the step's cells, where the law keeps them, outlast the calls -/
theorem PL.cell {u1 u' : World} {p q N N2 : Nat} {S S2 : St} {X : Nat → Prop} {b o : Nat} {v : Value} (h : PL u1 p q X u' N S N2 S2) (hb : b < u1.heap.size) (hX : ¬ X b) (hc : u1.cell? ⟨b, o, none⟩ = some v) : u'.cell? ⟨b, o, none⟩ = some v := by
  obtain ⟨_, _, t, _⟩ := h
  exact (t.cell hb hX).trans hc

/-- the step, as it is kept -/
theorem kept_step (u : World) (kd fd : Int) (n : Nat) (nm tx : ByteArray) : ∀ u1, u1 = u.alloc (.cells #[.int .i64 kd, .int .i64 fd, .int .u64 (n : Int), .string nm, .string tx] 36) → Tn No u u1 ∧ u.heap.size < u1.heap.size ∧ u1.cell? ⟨u.heap.size, 0, none⟩ = some (.int .i64 kd) ∧ u1.cell? ⟨u.heap.size, 1, none⟩ = some (.int .i64 fd) ∧ u1.cell? ⟨u.heap.size, 2, none⟩ = some (.int .u64 (n : Int)) ∧ u1.cell? ⟨u.heap.size, 3, none⟩ = some (.string nm) ∧ u1.cell? ⟨u.heap.size, 4, none⟩ = some (.string tx) := by
  rintro u1 rfl
  refine ⟨(Tn.refl No u).alloc _, by simp, ?_, ?_, ?_, ?_, ?_⟩
  all_goals (rw [World.cell?_alloc_new]; rfl)

set_option maxHeartbeats 2000000 in
set_option maxRecDepth 100000 in
theorem does_out (u : World) (p q N : Nat) (S : St) (X : Nat → Prop) (h : PP u p q N S N S X) (hX : ¬ X u.heap.size) (hf : FT S) (x : Stp) (hx : x.ok) (hk : pk x.kind 16 = 9) (hN : N + N + 2 * x.text.size + 2 ≤ 1099511627776) :
    Calls Try.prog 12 #[.pointer (some ⟨p, 0, none⟩), .pointer (some ⟨q, 0, none⟩), x.val] u (DoPost u p q X (N + 2 * x.text.size + 2) (S.write 1 x.text)) := by
  obtain ⟨kd, fd, n, nm, tx⟩ := x
  have h0 := hx.k0
  have h1 := hx.k1
  simp only at h0 h1 hk hN ⊢
  have HPK : Hid (∀ v, Calls Try.prog 16 #[.int .i64 kd, .int .i64 16] v fun e w' => e = .returned (.int .i64 9) ∧ w' = v) := hid (fun v => by
    have := pick_raw kd 16 v h0 h1 (by omega) (by omega)
    rw [hk] at this
    exact this)
  have HKS := hid (kept_step u kd fd n nm tx)
  have HL : Hid (∀ u1 v, Tn No u u1 → Tn No u1 v → Calls Try.prog 17 #[.pointer (some ⟨p, 0, none⟩), .string tx] v fun e u' => e = .returned (.tuple #[]) ∧ PL u1 p q X u' (N + 2 * tx.size + 2) (S.write 1 tx) N S) := hid (fun u1 v t1 t => ((PL.refl (h.no t1)).no t).callL (fun L a => out_raw p L N S tx v a hf.wf hN))
  have HR : Hid (∀ u1 v, PL u1 p q X v (N + 2 * tx.size + 2) (S.write 1 tx) N S → Calls Try.prog 39 #[.pointer (some ⟨q, 0, none⟩), .string tx] v fun e u' => e = .returned (.tuple #[]) ∧ PL u1 p q X u' (N + 2 * tx.size + 2) (S.write 1 tx) (N + 2 * tx.size + 2) (S.write 1 tx)) := hid (fun u1 v t => t.callR (fun L a => rout_raw v q L N S a hf tx (by omega)))
  unfold Stp.val
  clear h hf hx hk hN
  go_enter Try.func12, Try.ntmps12
  go_wp2_with (first
    | (go_at_call 16; refine (HPK.out _).mono ?_; rintro e u1 ⟨rfl, h5⟩; obtain ⟨t1, hb, c0, c1, c2, c3, c4⟩ := HKS.out _ h5; have HT := hid t1; clear h5 t1 HKS)
    | (go_at_call 17; refine (HL.out _ _ HT.out (by repeat (first | exact Tn.refl _ _ | apply Tn.drew | apply Tn.drewN | apply Tn.alloc | (refine Tn.then ?_ (by assumption)) | (refine Tn.thenNo ?_ (by assumption))))).mono ?_; rintro e w6 ⟨rfl, hl6⟩; have d4 := hl6.cell hb hX c4)
    | (go_at_call 39; refine (HR.out _ _ (hl6.no (by repeat (first | exact Tn.refl _ _ | apply Tn.drew | apply Tn.drewN | apply Tn.alloc | (refine Tn.then ?_ (by assumption)) | (refine Tn.thenNo ?_ (by assumption)))))).mono ?_; rintro e w7 ⟨rfl, hl7⟩))
  go_ret
  exact ⟨rfl, hl7.under HT.out⟩
set_option maxHeartbeats 2000000 in
set_option maxRecDepth 100000 in
theorem does_err (u : World) (p q N : Nat) (S : St) (X : Nat → Prop) (h : PP u p q N S N S X) (hX : ¬ X u.heap.size) (hf : FT S) (x : Stp) (hx : x.ok) (hk : pk x.kind 16 = 10) (hN : N + N + 2 * x.text.size + 2 ≤ 1099511627776) :
    Calls Try.prog 12 #[.pointer (some ⟨p, 0, none⟩), .pointer (some ⟨q, 0, none⟩), x.val] u (DoPost u p q X (N + 2 * x.text.size + 2) (S.write 2 x.text)) := by
  obtain ⟨kd, fd, n, nm, tx⟩ := x
  have h0 := hx.k0
  have h1 := hx.k1
  simp only at h0 h1 hk hN ⊢
  have HPK : Hid (∀ v, Calls Try.prog 16 #[.int .i64 kd, .int .i64 16] v fun e w' => e = .returned (.int .i64 10) ∧ w' = v) := hid (fun v => by
    have := pick_raw kd 16 v h0 h1 (by omega) (by omega)
    rw [hk] at this
    exact this)
  have HKS := hid (kept_step u kd fd n nm tx)
  have HL : Hid (∀ u1 v, Tn No u u1 → Tn No u1 v → Calls Try.prog 40 #[.pointer (some ⟨p, 0, none⟩), .string tx] v fun e u' => e = .returned (.tuple #[]) ∧ PL u1 p q X u' (N + 2 * tx.size + 2) (S.write 2 tx) N S) := hid (fun u1 v t1 t => ((PL.refl (h.no t1)).no t).callL (fun L a => err_raw p L N S tx v a hf.wf hN))
  have HR : Hid (∀ u1 v, PL u1 p q X v (N + 2 * tx.size + 2) (S.write 2 tx) N S → Calls Try.prog 41 #[.pointer (some ⟨q, 0, none⟩), .string tx] v fun e u' => e = .returned (.tuple #[]) ∧ PL u1 p q X u' (N + 2 * tx.size + 2) (S.write 2 tx) (N + 2 * tx.size + 2) (S.write 2 tx)) := hid (fun u1 v t => t.callR (fun L a => rerr_raw v q L N S a hf tx (by omega)))
  unfold Stp.val
  clear h hf hx hk hN
  go_enter Try.func12, Try.ntmps12
  go_wp2_with (first
    | (go_at_call 16; refine (HPK.out _).mono ?_; rintro e u1 ⟨rfl, h5⟩; obtain ⟨t1, hb, c0, c1, c2, c3, c4⟩ := HKS.out _ h5; have HT := hid t1; clear h5 t1 HKS)
    | (go_at_call 40; refine (HL.out _ _ HT.out (by repeat (first | exact Tn.refl _ _ | apply Tn.drew | apply Tn.drewN | apply Tn.alloc | (refine Tn.then ?_ (by assumption)) | (refine Tn.thenNo ?_ (by assumption))))).mono ?_; rintro e w6 ⟨rfl, hl6⟩; have d4 := hl6.cell hb hX c4)
    | (go_at_call 41; refine (HR.out _ _ (hl6.no (by repeat (first | exact Tn.refl _ _ | apply Tn.drew | apply Tn.drewN | apply Tn.alloc | (refine Tn.then ?_ (by assumption)) | (refine Tn.thenNo ?_ (by assumption)))))).mono ?_; rintro e w7 ⟨rfl, hl7⟩))
  go_ret
  exact ⟨rfl, hl7.under HT.out⟩

set_option maxHeartbeats 2000000 in
set_option maxRecDepth 100000 in
theorem does_rf (u : World) (p q N : Nat) (S : St) (X : Nat → Prop) (h : PP u p q N S N S X) (hX : ¬ X u.heap.size) (x : Stp) (hx : x.ok) (hk : pk x.kind 16 = 13 ∨ pk x.kind 16 = 14) (hN : N + 2 ≤ 1099511627776) :
    Calls Try.prog 12 #[.pointer (some ⟨p, 0, none⟩), .pointer (some ⟨q, 0, none⟩), x.val] u (DoPost u p q X (N + 2) (S.rfile x.name)) := by
  obtain ⟨kd, fd, n, nm, tx⟩ := x
  have h0 := hx.k0
  have h1 := hx.k1
  have hm := hx.nm
  simp only at h0 h1 hk hm ⊢
  obtain ⟨r, hr⟩ : ∃ r, pk kd 16 = r := ⟨_, rfl⟩
  have HPK : Hid (∀ v, Calls Try.prog 16 #[.int .i64 kd, .int .i64 16] v fun e w' => e = .returned (.int .i64 r) ∧ w' = v) := hid (fun v => by
    have := pick_raw kd 16 v h0 h1 (by omega) (by omega)
    rw [hr] at this
    exact this)
  rw [hr] at hk
  have HKS := hid (kept_step u kd fd n nm tx)
  obtain ⟨tt, htt⟩ : ∃ tt, str (rfTx S nm) = tt := ⟨_, rfl⟩
  obtain ⟨bb, hbb⟩ : ∃ bb, decide (0 ≤ openRes S nm 0) = bb := ⟨_, rfl⟩
  have HL : Hid (∀ u1 v, Tn No u u1 → Tn No u1 v → Calls Try.prog 22 #[.pointer (some ⟨p, 0, none⟩), .string nm] v fun e u' => e = .returned (.tuple #[.string tt, .bool bb]) ∧ PL u1 p q X u' (N + 2) (S.rfile nm) N S) := hid (fun u1 v t1 t => ((PL.refl (h.no t1)).no t).callL (fun L a => by have := rfile_raw p L N S nm v a hm hN; unfold RfPost at this; rw [htt, hbb] at this; exact this))
  have HR : Hid (∀ u1 v, PL u1 p q X v (N + 2) (S.rfile nm) N S → Calls Try.prog 43 #[.pointer (some ⟨q, 0, none⟩), .string nm] v fun e u' => e = .returned (.tuple #[.string tt, .bool bb]) ∧ PL u1 p q X u' (N + 2) (S.rfile nm) (N + 2) (S.rfile nm)) := hid (fun u1 v t => t.callR (fun L a => by have := rrfile_raw v q L N S a nm hm hN; unfold RRfPost at this; rw [htt, hbb] at this; exact this))
  unfold Stp.val
  have hself : (tt.toList == tt.toList) = true := beq_self_eq_true _
  clear h hx hN htt hbb hr
  rcases hk with rfl | rfl
  all_goals
    go_enter Try.func12, Try.ntmps12
    go_wp2_with (first
      | (go_at_call 16; refine (HPK.out _).mono ?_; rintro e u1 ⟨rfl, h5⟩; obtain ⟨t1, hb, c0, c1, c2, c3, c4⟩ := HKS.out _ h5; have HT := hid t1; clear h5 t1 HKS)
      | (go_at_call 22; refine (HL.out _ _ HT.out (by repeat (first | exact Tn.refl _ _ | apply Tn.drew | apply Tn.drewN | apply Tn.alloc | (refine Tn.then ?_ (by assumption)) | (refine Tn.thenNo ?_ (by assumption))))).mono ?_; rintro e w6 ⟨rfl, hl6⟩; have d3 := hl6.cell hb hX c3)
      | (go_at_call 43; refine (HR.out _ _ (hl6.no (by repeat (first | exact Tn.refl _ _ | apply Tn.drew | apply Tn.drewN | apply Tn.alloc | (refine Tn.then ?_ (by assumption)) | (refine Tn.thenNo ?_ (by assumption)))))).mono ?_; rintro e w7 ⟨rfl, hl7⟩))
    go_ret
    exact ⟨ret_bool (by simp), hl7.under HT.out⟩
end Go.Proofs.Ytkbdgdcicflocaa
namespace Go.Proofs.Ytkbdgdcicflocaa
set_option linter.unusedSimpArgs false
set_option linter.unusedVariables false
open Go.RowKit
attribute [local go_sem ↓] Go.wp_at_zero Go.wp_at_succ

set_option maxHeartbeats 2000000 in
set_option maxRecDepth 100000 in
theorem does_line (u : World) (p q N : Nat) (S : St) (X : Nat → Prop) (h : PP u p q N S N S X) (hX : ¬ X u.heap.size) (hin : S.inp.length ≤ 9223372036854775806) (x : Stp) (hx : x.ok) (hk : pk x.kind 16 = 11 ∨ pk x.kind 16 = 12) :
    Calls Try.prog 12 #[.pointer (some ⟨p, 0, none⟩), .pointer (some ⟨q, 0, none⟩), x.val] u (DoPost u p q X N (S.read (lineLen (S.inp.drop S.rd)))) := by
  obtain ⟨kd, fd, n, nm, tx⟩ := x
  have h0 := hx.k0
  have h1 := hx.k1
  simp only at h0 h1 hk
  obtain ⟨r, hr⟩ : ∃ r, pk kd 16 = r := ⟨_, rfl⟩
  have HPK : Hid (∀ v, Calls Try.prog 16 #[.int .i64 kd, .int .i64 16] v fun e w' => e = .returned (.int .i64 r) ∧ w' = v) := hid (fun v => by
    have := pick_raw kd 16 v h0 h1 (by omega) (by omega)
    rw [hr] at this
    exact this)
  rw [hr] at hk
  have HKS := hid (kept_step u kd fd n nm tx)
  obtain ⟨S', hS'⟩ : ∃ S', S.read (lineLen (S.inp.drop S.rd)) = S' := ⟨_, rfl⟩
  obtain ⟨tt, htt⟩ : ∃ tt, str (nx S.inp S.rd (lineLen (S.inp.drop S.rd))) = tt := ⟨_, rfl⟩
  rw [hS']
  have HL : Hid (∀ u1 v, Tn No u u1 → Tn No u1 v → Calls Try.prog 25 #[.pointer (some ⟨p, 0, none⟩)] v fun e u' => e = .returned (.string tt) ∧ PL u1 p q X u' N S' N S) := hid (fun u1 v t1 t => ((PL.refl (h.no t1)).no t).callL (fun L a => by have := line_raw p L N S v a; unfold LinePost at this; rw [← hS', ← htt]; exact this))
  have HR : Hid (∀ u1 v, PL u1 p q X v N S' N S → Calls Try.prog 42 #[.pointer (some ⟨q, 0, none⟩)] v fun e u' => e = .returned (.string tt) ∧ PL u1 p q X u' N S' N S') := hid (fun u1 v t => t.callR (fun L a => by have := rline_raw v q L N S a hin; rw [hS', htt] at this; exact this))
  unfold Stp.val
  have hself : (tt.toList == tt.toList) = true := beq_self_eq_true _
  clear h hx htt hr hS' hin
  rcases hk with rfl | rfl
  all_goals
    go_enter Try.func12, Try.ntmps12
    go_wp2_with (first
      | (go_at_call 16; refine (HPK.out _).mono ?_; rintro e u1 ⟨rfl, h5⟩; obtain ⟨t1, hb, c0, c1, c2, c3, c4⟩ := HKS.out _ h5; have HT := hid t1; clear h5 t1 HKS)
      | (go_at_call 25; refine (HL.out _ _ HT.out (by repeat (first | exact Tn.refl _ _ | apply Tn.drew | apply Tn.drewN | apply Tn.alloc | (refine Tn.then ?_ (by assumption)) | (refine Tn.thenNo ?_ (by assumption))))).mono ?_; rintro e w6 ⟨rfl, hl6⟩)
      | (go_at_call 42; refine (HR.out _ _ (hl6.no (by repeat (first | exact Tn.refl _ _ | apply Tn.drew | apply Tn.drewN | apply Tn.alloc | (refine Tn.then ?_ (by assumption)) | (refine Tn.thenNo ?_ (by assumption)))))).mono ?_; rintro e w7 ⟨rfl, hl7⟩))
    go_ret
    exact ⟨ret_bool (by simp), hl7.under HT.out⟩
end Go.Proofs.Ytkbdgdcicflocaa
namespace Go.Proofs.Ytkbdgdcicflocaa
set_option linter.unusedSimpArgs false
set_option linter.unusedVariables false
open Go.RowKit
attribute [local go_sem ↓] Go.wp_at_zero Go.wp_at_succ

/-- the step's five cells -/
def S5 (w : World) (b : Nat) (kd fd : Int) (n : Nat) (nm tx : ByteArray) : Prop :=
  w.cell? ⟨b, 0, none⟩ = some (.int .i64 kd) ∧ w.cell? ⟨b, 1, none⟩ = some (.int .i64 fd) ∧ w.cell? ⟨b, 2, none⟩ = some (.int .u64 (n : Int)) ∧ w.cell? ⟨b, 3, none⟩ = some (.string nm) ∧ w.cell? ⟨b, 4, none⟩ = some (.string tx)
theorem S5.no {w w' : World} {b : Nat} {kd fd : Int} {n : Nat} {nm tx : ByteArray} (h : S5 w b kd fd n nm tx) (hb : b < w.heap.size) (t : Tn No w w') : S5 w' b kd fd n nm tx := by
  obtain ⟨a0, a1, a2, a3, a4⟩ := h
  exact ⟨(t.cell hb (fun e => e)).trans a0, (t.cell hb (fun e => e)).trans a1, (t.cell hb (fun e => e)).trans a2, (t.cell hb (fun e => e)).trans a3, (t.cell hb (fun e => e)).trans a4⟩
theorem PL.s5 {u1 u' : World} {p q N N2 : Nat} {S S2 : St} {X : Nat → Prop} {b : Nat} {kd fd : Int} {n : Nat} {nm tx : ByteArray} (h : PL u1 p q X u' N S N2 S2) (hb : b < u1.heap.size) (hX : ¬ X b) (c : S5 u1 b kd fd n nm tx) : S5 u' b kd fd n nm tx := by
  obtain ⟨a0, a1, a2, a3, a4⟩ := c
  exact ⟨h.cell hb hX a0, h.cell hb hX a1, h.cell hb hX a2, h.cell hb hX a3, h.cell hb hX a4⟩
theorem PL.size {u1 u' : World} {p q N N2 : Nat} {S S2 : St} {X : Nat → Prop} (h : PL u1 p q X u' N S N2 S2) : u1.heap.size ≤ u'.heap.size := by
  obtain ⟨_, _, t, _⟩ := h
  exact t.size

set_option maxHeartbeats 4000000 in
set_option maxRecDepth 100000 in
theorem does_close (u : World) (p q N : Nat) (S : St) (X : Nat → Prop) (h : PP u p q N S N S X) (hX : ¬ X u.heap.size) (x : Stp) (hx : x.ok) (hk : pk x.kind 16 = 8) :
    Calls Try.prog 12 #[.pointer (some ⟨p, 0, none⟩), .pointer (some ⟨q, 0, none⟩), x.val] u (DoPost u p q X N (S.close x.fdv)) := by
  have HFD := hid (fun v => fd_raw x v hx)
  have hfd := hx.fdv
  obtain ⟨fv, hfv⟩ : ∃ fv, x.fdv = fv := ⟨_, rfl⟩
  rw [hfv] at HFD hfd ⊢
  obtain ⟨kd, fd, n, nm, tx⟩ := x
  have h0 := hx.k0
  have h1 := hx.k1
  simp only at h0 h1 hk
  have HPK : Hid (∀ v, Calls Try.prog 16 #[.int .i64 kd, .int .i64 16] v fun e w' => e = .returned (.int .i64 8) ∧ w' = v) := hid (fun v => by
    have := pick_raw kd 16 v h0 h1 (by omega) (by omega)
    rw [hk] at this
    exact this)
  have HKS := hid (kept_step u kd fd n nm tx)
  obtain ⟨r, hr⟩ : ∃ r, closeRes S fv = r := ⟨_, rfl⟩
  have HL : Hid (∀ u1 v, Tn No u u1 → Tn No u1 v → Calls Try.prog 23 #[.pointer (some ⟨p, 0, none⟩), .int .i64 fv] v fun e u' => e = .returned (.int .i64 r) ∧ PL u1 p q X u' N (S.close fv) N S) := hid (fun u1 v t1 t => ((PL.refl (h.no t1)).no t).callL (fun L a => by have := close_raw p L N S fv v a hfd.1 hfd.2; rw [hr] at this; exact this))
  have HR : Hid (∀ u1 v, PL u1 p q X v N (S.close fv) N S → Calls Try.prog 38 #[.pointer (some ⟨q, 0, none⟩), .int .i64 fv] v fun e u' => e = .returned (.int .i64 r) ∧ PL u1 p q X u' N (S.close fv) N (S.close fv)) := hid (fun u1 v t => t.callR (fun L a => by have := rclose_raw v q L N S a fv hfd.1 hfd.2; rw [hr] at this; exact this))
  unfold Stp.val at HFD ⊢
  simp only at HFD ⊢
  clear h hx hr hk hfv
  go_enter Try.func12, Try.ntmps12
  go_wp2_with (first
    | (go_at_call 16; refine (HPK.out _).mono ?_; rintro e u1 ⟨rfl, h5⟩; obtain ⟨t1, hb, c0, c1, c2, c3, c4⟩ := HKS.out _ h5; have HT := hid t1; clear h5 t1 HKS)
    | fail)
  have HC : Hid (S5 u1 u.heap.size kd fd n nm tx) := hid ⟨c0, c1, c2, c3, c4⟩
  obtain ⟨b, hbe⟩ : ∃ b, u.heap.size = b := ⟨_, rfl⟩
  rw [hbe] at HC hb hX c0 c1 c2 c3 c4 ⊢
  clear hbe
  go_region_held3 (fun w' => w'.cell? ⟨b, 0, none⟩ = some (.int .i64 kd) ∧ w'.cell? ⟨b, 1, none⟩ = some (.int .i64 fd) ∧ w'.cell? ⟨b, 2, none⟩ = some (.int .u64 (n : Int)) ∧ w'.cell? ⟨b, 3, none⟩ = some (.string nm) ∧ w'.cell? ⟨b, 4, none⟩ = some (.string tx)) (go_keep) (first
    | (go_at_call 35; refine (HFD.out _).mono ?_; rintro e wb ⟨rfl, tb⟩; have hl8 := hl6.no tb; obtain ⟨g0, g1, g2, g3, g4⟩ := hl8.s5 hb hX HC.out)
    | (go_at_call 35; refine (HFD.out _).mono ?_; rintro e wa ⟨rfl, ta⟩; obtain ⟨a0, a1, a2, a3, a4⟩ := HC.out.no hb (((Tn.refl No u1).drew).then ta))
    | (go_at_call 23; refine (HL.out u1 _ HT.out (((Tn.refl No u1).drew).then ta)).mono ?_; rintro e w6 ⟨rfl, hl6⟩; obtain ⟨f0, f1, f2, f3, f4⟩ := hl6.s5 hb hX HC.out)
    | (go_at_call 38; refine (HR.out u1 _ hl8).mono ?_; rintro e w7 ⟨rfl, hl7⟩; obtain ⟨e0, e1, e2, e3, e4⟩ := hl7.s5 hb hX HC.out))
  go_wp2_with fail
  go_ret
  exact ⟨ret_bool (by simp), hl7.under HT.out⟩
end Go.Proofs.Ytkbdgdcicflocaa
namespace Go.Proofs.Ytkbdgdcicflocaa
set_option linter.unusedSimpArgs false
set_option linter.unusedVariables false
open Go.RowKit
attribute [local go_sem ↓] Go.wp_at_zero Go.wp_at_succ

set_option maxHeartbeats 4000000 in
set_option maxRecDepth 100000 in
theorem does_write (u : World) (p q N : Nat) (S : St) (X : Nat → Prop) (h : PP u p q N S N S X) (hX : ¬ X u.heap.size) (x : Stp) (hx : x.ok) (hf : FT S) (hN : N + N + 2 * x.text.size + 2 ≤ 1099511627776) (hk : pk x.kind 16 = 5 ∨ pk x.kind 16 = 6 ∨ pk x.kind 16 = 7) :
    Calls Try.prog 12 #[.pointer (some ⟨p, 0, none⟩), .pointer (some ⟨q, 0, none⟩), x.val] u (DoPost u p q X (N + 2 * x.text.size + 2) (S.write x.fdv x.text)) := by
  have HFD := hid (fun v => fd_raw x v hx)
  have hfd := hx.fdv
  obtain ⟨fv, hfv⟩ : ∃ fv, x.fdv = fv := ⟨_, rfl⟩
  rw [hfv] at HFD hfd ⊢
  obtain ⟨kd, fd, n, nm, tx⟩ := x
  have h0 := hx.k0
  have h1 := hx.k1
  simp only at h0 h1 hk hN ⊢
  obtain ⟨rk, hrk⟩ : ∃ rk, pk kd 16 = rk := ⟨_, rfl⟩
  rw [hrk] at hk
  have HPK : Hid (∀ v, Calls Try.prog 16 #[.int .i64 kd, .int .i64 16] v fun e w' => e = .returned (.int .i64 rk) ∧ w' = v) := hid (fun v => by
    have := pick_raw kd 16 v h0 h1 (by omega) (by omega)
    rw [hrk] at this
    exact this)
  have HKS := hid (kept_step u kd fd n nm tx)
  obtain ⟨r, hr⟩ : ∃ r, writeRes S fv tx = r := ⟨_, rfl⟩
  have HL : Hid (∀ u1 v, Tn No u u1 → Tn No u1 v → Calls Try.prog 18 #[.pointer (some ⟨p, 0, none⟩), .int .i64 fv, .string tx] v fun e u' => e = .returned (.int .i64 r) ∧ PL u1 p q X u' (N + 2 * tx.size + 2) (S.write fv tx) N S) := hid (fun u1 v t1 t => ((PL.refl (h.no t1)).no t).callL (fun L a => by have := write_raw p L N S fv tx v a hf.wf hfd.1 hfd.2 hN; unfold WritePost at this; rw [hr] at this; exact this))
  have HR : Hid (∀ u1 v, PL u1 p q X v (N + 2 * tx.size + 2) (S.write fv tx) N S → Calls Try.prog 37 #[.pointer (some ⟨q, 0, none⟩), .int .i64 fv, .string tx] v fun e u' => e = .returned (.int .i64 r) ∧ PL u1 p q X u' (N + 2 * tx.size + 2) (S.write fv tx) (N + 2 * tx.size + 2) (S.write fv tx)) := hid (fun u1 v t => t.callR (fun L a => by have := rwrite_raw v q L N S a hf fv tx hfd.1 hfd.2 (by omega); unfold RWritePost at this; rw [hr] at this; exact this))
  unfold Stp.val at HFD ⊢
  simp only at HFD ⊢
  clear h hx hr hrk hfv hN hf
  rcases hk with rfl | rfl | rfl
  all_goals
    go_enter Try.func12, Try.ntmps12
    go_wp2_with (first
      | (go_at_call 16; refine (HPK.out _).mono ?_; rintro e u1 ⟨rfl, h5⟩; obtain ⟨t1, hb, c0, c1, c2, c3, c4⟩ := HKS.out _ h5; have HT := hid t1; clear h5 t1 HKS)
      | fail)
    have HC : Hid (S5 u1 u.heap.size kd fd n nm tx) := hid ⟨c0, c1, c2, c3, c4⟩
    obtain ⟨b, hbe⟩ : ∃ b, u.heap.size = b := ⟨_, rfl⟩
    rw [hbe] at HC hb hX c0 c1 c2 c3 c4 ⊢
    clear hbe
    go_region_held3 (fun w' => w'.cell? ⟨b, 0, none⟩ = some (.int .i64 kd) ∧ w'.cell? ⟨b, 1, none⟩ = some (.int .i64 fd) ∧ w'.cell? ⟨b, 2, none⟩ = some (.int .u64 (n : Int)) ∧ w'.cell? ⟨b, 3, none⟩ = some (.string nm) ∧ w'.cell? ⟨b, 4, none⟩ = some (.string tx)) (go_keep) (first
      | (go_at_call 35; refine (HFD.out _).mono ?_; rintro e wb ⟨rfl, tb⟩; have hl8 := hl6.no tb; obtain ⟨g0, g1, g2, g3, g4⟩ := hl8.s5 hb hX HC.out)
      | (go_at_call 35; refine (HFD.out _).mono ?_; rintro e wa ⟨rfl, ta⟩; obtain ⟨a0, a1, a2, a3, a4⟩ := HC.out.no hb (((Tn.refl No u1).drew).then ta))
      | (go_at_call 18; refine (HL.out u1 _ HT.out (((Tn.refl No u1).drew).then ta)).mono ?_; rintro e w6 ⟨rfl, hl6⟩; obtain ⟨f0, f1, f2, f3, f4⟩ := hl6.s5 hb hX HC.out)
      | (go_at_call 37; refine (HR.out u1 _ hl8).mono ?_; rintro e w7 ⟨rfl, hl7⟩; obtain ⟨e0, e1, e2, e3, e4⟩ := hl7.s5 hb hX HC.out))
    go_wp2_with fail
    go_ret
    exact ⟨ret_bool (by simp), hl7.under HT.out⟩
end Go.Proofs.Ytkbdgdcicflocaa
