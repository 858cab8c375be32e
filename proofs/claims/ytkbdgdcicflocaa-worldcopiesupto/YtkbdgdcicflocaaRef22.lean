/-
  The reference's Out, Err, WriteFile, ReadFile; the program's Err.
-/
import Derived.Test.YtkbdgdcicflocaaRef21
import Derived.Test.YtkbdgdcicflocaaNames
namespace Go.Proofs.Ytkbdgdcicflocaa
set_option linter.unusedSimpArgs false
set_option linter.unusedVariables false
open Go.RowKit
attribute [local go_sem ↓] Go.wp_at_zero Go.wp_at_succ

theorem RLft.trans {w w1 w2 : World} {q : Nat} {L L1 : Nat → Option Lab} {N2 : Nat} {S2 : St} (h : RLft w1 q L1 w2 N2 S2) (t : Tn (fun k => L k ≠ none) w w1) (hl : ∀ k, k < w.heap.size → L k = none → L1 k = none) : RLft w q L w2 N2 S2 := by
  obtain ⟨L2, h2, t2, hl2⟩ := h
  refine ⟨L2, h2, t.trans t2 (fun _ _ e => e) (fun i hi e e' => e (hl i hi e')), fun k hk e => hl2 k (Nat.lt_of_lt_of_le hk t.size) (hl k hk e)⟩

/-! ### a descriptor's file stays -/
theorem FT.wf {S : St} (h : FT S) : WF S := fun i hi hk => h i hi (.inr hk)
theorem ft_de {S : St} (h : FT S) (i : Nat) (d : De) (hd : d.kind = 4 ∨ d.kind = 5 → (S.fs d.name.data.toList).isSome = true) : FT (S.setDe i d) := fun j hj hk => by
  by_cases e : j = i
  · subst e; simp only [St.setDe, upd_same] at hk ⊢; exact hd hk
  · simp only [St.setDe, upd_other _ _ e] at hk ⊢; exact h j hj hk
theorem ft_put {S : St} (h : FT S) (k l : List UInt8) : FT (S.put k l) := fun j hj hk => by
  have := h j hj hk
  simp only [St.put]
  split
  · rfl
  · exact this
theorem ft_tr {S : St} (h : FT S) (tr : List Ev) : FT { S with tr := tr } := h
theorem ft_say {S : St} (h : FT S) (k : Int) (nm : ByteArray) (t : List UInt8) : FT (S.say k nm t) := by
  unfold St.say
  split
  · exact h
  · split
    · split
      · exact h
      · exact h
    · exact h
theorem openRes_has {S : St} {s : ByteArray} (h : ¬ openRes S s 0 < 0) : S.has s = true := by
  cases e : S.has s with
  | true => rfl
  | false =>
    exfalso
    apply h
    unfold openRes
    split
    · omega
    · split
      · omega
      · rw [if_pos (.inr ⟨rfl, e⟩)]; omega
theorem ft_open {S : St} (h : FT S) (s : ByteArray) (fl : Int) : FT (openSt S s fl) := by
  unfold openSt
  split
  · exact h
  · rename_i hn
    split
    · rename_i e0
      subst e0
      have := openRes_has hn
      exact ft_de h _ _ (fun _ => this)
    · unfold St.openW
      refine ft_tr ?_ _
      intro j hj hk
      by_cases e : j = (openRes S s fl).toNat
      · subst e
        simp only [St.put, St.setDe, upd_same, if_true]
        rfl
      · simp only [St.put, St.setDe, upd_other _ _ e] at hk ⊢
        split
        · rfl
        · exact h j hj hk
theorem ft_close {S : St} (h : FT S) (fd : Int) : FT (S.close fd) := by
  unfold St.close
  split
  · exact h
  · exact ft_de h _ _ (by intro e; simp [noDe] at e)
theorem ft_write {S : St} (h : FT S) (fd : Int) (s : ByteArray) : FT (S.write fd s) := by
  unfold St.write
  split
  · exact ft_say h _ _ _
  · split
    · exact ft_say h _ _ _
    · split
      · refine ft_say (ft_de (ft_put h _ _) _ _ (fun _ => ?_)) _ _ _
        simp [St.put]
      · exact h
theorem ft_read {S : St} (h : FT S) (fd : Int) (n : Nat) : FT (S.sread fd n) := by
  unfold St.sread
  split
  · exact h
  · split
    · rename_i hk
      obtain ⟨i, rfl, hi, e⟩ := at_file (S := S) (fd := fd) (by omega)
      rw [e] at hk
      have := h i hi (.inl hk)
      rw [e]
      exact ft_de h _ _ (fun _ => this)
    · exact h
theorem ft_wfile {S : St} (h : FT S) (nm data : ByteArray) : FT (S.wfile nm data) := by
  unfold St.wfile
  split
  · exact h
  · exact ft_close (ft_write (ft_open h _ _) _ _) _
theorem ft_rfile {S : St} (h : FT S) (nm : ByteArray) : FT (S.rfile nm) := by
  unfold St.rfile
  split
  · exact h
  · exact ft_close (ft_open h _ _) _

/-! ### Out, Err -/
set_option maxHeartbeats 1000000 in
set_option maxRecDepth 100000 in
theorem err_raw (p : Nat) (L : Nat → Option Lab) (N : Nat) (S : St) (s : ByteArray) (w : World) (h : PW w p L N S) (hw : WF S) (hN : N + N + 2 * s.size + 2 ≤ 1099511627776) :
    Calls Try.prog 40 #[.pointer (some ⟨p, 0, none⟩), .string s] w fun e w' => e = .returned (.tuple #[]) ∧ Lft w p L w' (N + 2 * s.size + 2) (S.write 2 s) := by
  have hwr := write_raw p L N S 2 s w h hw (by omega) (by omega) hN
  have HW := hid hwr
  clear hwr h hw hN
  go_enter Try.func40, Try.ntmps40
  go_wp2_with (go_at_call 18; refine HW.out.mono ?_; rintro e w1 ⟨rfl, hl1⟩)
  go_end0
  exact ⟨rfl, hl1⟩

set_option maxHeartbeats 1000000 in
set_option maxRecDepth 100000 in
theorem rout_raw (w : World) (q : Nat) (L : Nat → Option Lab) (N : Nat) (S : St) (h : PR w q L N S) (hw : FT S) (s : ByteArray) (hN : N + 2 * s.size + 2 ≤ 1099511627776) :
    Calls Try.prog 39 #[.pointer (some ⟨q, 0, none⟩), .string s] w fun e w' => e = .returned (.tuple #[]) ∧ RLft w q L w' (N + 2 * s.size + 2) (S.write 1 s) := by
  have hwr := rwrite_raw w q L N S h hw 1 s (by omega) (by omega) hN
  have HW := hid hwr
  clear hwr h hw hN
  go_enter Try.func39, Try.ntmps39
  go_wp2_with (go_at_call 37; refine HW.out.mono ?_; rintro e w1 ⟨rfl, hl1⟩)
  go_end0
  exact ⟨rfl, hl1⟩

set_option maxHeartbeats 1000000 in
set_option maxRecDepth 100000 in
theorem rerr_raw (w : World) (q : Nat) (L : Nat → Option Lab) (N : Nat) (S : St) (h : PR w q L N S) (hw : FT S) (s : ByteArray) (hN : N + 2 * s.size + 2 ≤ 1099511627776) :
    Calls Try.prog 41 #[.pointer (some ⟨q, 0, none⟩), .string s] w fun e w' => e = .returned (.tuple #[]) ∧ RLft w q L w' (N + 2 * s.size + 2) (S.write 2 s) := by
  have hwr := rwrite_raw w q L N S h hw 2 s (by omega) (by omega) hN
  have HW := hid hwr
  clear hwr h hw hN
  go_enter Try.func41, Try.ntmps41
  go_wp2_with (go_at_call 37; refine HW.out.mono ?_; rintro e w1 ⟨rfl, hl1⟩)
  go_end0
  exact ⟨rfl, hl1⟩

/-! ### WriteFile -/
def RWfPost (w : World) (p : Nat) (L : Nat → Option Lab) (N : Nat) (S : St) (nm data : ByteArray) (e : Ending) (w' : World) : Prop :=
  e = .returned (.bool (decide (0 ≤ openRes S nm 577))) ∧ RLft w p L w' (N + 2 * data.size + 4) (S.wfile nm data)

set_option maxHeartbeats 1000000 in
set_option maxRecDepth 100000 in
theorem rwfile_raw (w : World) (q : Nat) (L : Nat → Option Lab) (N : Nat) (S : St) (h : PR w q L N S) (hw : FT S) (nm data : ByteArray) (hs : nm.size ≤ maxLen) (hN : N + 2 * data.size + 6 ≤ 1099511627776) :
    Calls Try.prog 44 #[.pointer (some ⟨q, 0, none⟩), .string nm, .string data] w (RWfPost w q L N S nm data) := by
  have hop := ropen_raw w q L N S h nm 577 hs (by omega)
  obtain ⟨hr0, hr1⟩ := openRes_bd S nm 577
  have hwf := ft_open hw nm 577
  obtain ⟨fd, hfd⟩ : ∃ fd, openRes S nm 577 = fd := ⟨_, rfl⟩
  unfold ROpenPost at hop
  rw [hfd] at hop hr0 hr1
  have HOP := hid hop
  by_cases h0 : fd < 0
  · have hend : ∀ u, RLft w q L u (N + 2) (openSt S nm 577) → RWfPost w q L N S nm data (.returned (.bool false)) u := fun u hl => by
      refine ⟨by rw [hfd]; simp; omega, ?_⟩
      unfold St.wfile
      rw [hfd, if_pos h0]
      have e : openSt S nm 577 = S := by unfold openSt; rw [hfd, if_pos h0]
      rw [e] at hl
      exact hl.mono (by omega)
    have HE := hid hend
    clear hop hend hfd hwf h hw hN hs
    go_enter Try.func44, Try.ntmps44
    go_wp2_with (go_at_call 34; refine HOP.out.mono ?_; rintro e w1 ⟨rfl, hl1⟩)
    go_ret
    exact HE.out _ hl1
  · have hwr : ∀ u, RLft w q L u (N + 2) (openSt S nm 577) → Calls Try.prog 37 #[.pointer (some ⟨q, 0, none⟩), .int .i64 fd, .string data] u fun e w' => ∃ r, e = .returned (.int .i64 r) ∧ RLft w q L w' (N + 2 * data.size + 4) ((openSt S nm 577).write fd data) := fun u hl => by
      obtain ⟨L1, h1, t1, hl1⟩ := hl
      refine (rwrite_raw u q L1 (N + 2) _ h1 hwf fd data (by omega) (by omega) (by omega)).mono (fun e w' ⟨h1, h2⟩ => ⟨_, h1, ?_⟩)
      exact (h2.trans t1 hl1).mono (by omega)
    have hcl : ∀ u, RLft w q L u (N + 2 * data.size + 4) ((openSt S nm 577).write fd data) → Calls Try.prog 38 #[.pointer (some ⟨q, 0, none⟩), .int .i64 fd] u fun e w' => ∃ r, e = .returned (.int .i64 r) ∧ RLft w q L w' (N + 2 * data.size + 4) (((openSt S nm 577).write fd data).close fd) := fun u hl => by
      obtain ⟨L1, h1, t1, hl1⟩ := hl
      exact (rclose_raw u q L1 _ _ h1 fd (by omega) (by omega)).mono (fun e w' ⟨h1, h2⟩ => ⟨_, h1, h2.trans t1 hl1⟩)
    have hend : ∀ u, RLft w q L u (N + 2 * data.size + 4) (((openSt S nm 577).write fd data).close fd) → RWfPost w q L N S nm data (.returned (.bool true)) u := fun u hl => by
      refine ⟨by rw [hfd]; simp; omega, ?_⟩
      unfold St.wfile
      rw [hfd, if_neg h0]
      exact hl
    have HE := hid hend
    have HWR := hid hwr
    have HCL := hid hcl
    clear hop hend hwr hcl hfd hwf h hw hN hs
    go_enter Try.func44, Try.ntmps44
    go_wp2_with (first
      | (go_at_call 34; refine HOP.out.mono ?_; rintro e w1 ⟨rfl, hl1⟩)
      | (go_at_call 37; refine (HWR.out _ hl1).mono ?_; rintro e w2 ⟨r2, rfl, hl2⟩)
      | (go_at_call 38; refine (HCL.out _ hl2).mono ?_; rintro e w3 ⟨r3, rfl, hl3⟩))
    go_ret
    exact HE.out _ hl3

/-! ### ReadFile -/
def RRfPost (w : World) (q : Nat) (L : Nat → Option Lab) (N : Nat) (S : St) (nm : ByteArray) (e : Ending) (w' : World) : Prop :=
  e = .returned (.tuple #[.string (str (rfTx S nm)), .bool (decide (0 ≤ openRes S nm 0))]) ∧ RLft w q L w' (N + 2) (S.rfile nm)

set_option maxHeartbeats 1000000 in
set_option maxRecDepth 100000 in
theorem rrfile_raw (w : World) (q : Nat) (L : Nat → Option Lab) (N : Nat) (S : St) (h : PR w q L N S) (nm : ByteArray) (hs : nm.size ≤ maxLen) (hN : N + 2 ≤ 1099511627776) :
    Calls Try.prog 43 #[.pointer (some ⟨q, 0, none⟩), .string nm] w (RRfPost w q L N S nm) := by
  have hop := ropen_raw w q L N S h nm 0 hs (by omega)
  obtain ⟨hr0, hr1⟩ := openRes_bd S nm 0
  have hhas := openRes_has (S := S) (s := nm)
  obtain ⟨fd, hfd⟩ : ∃ fd, openRes S nm 0 = fd := ⟨_, rfl⟩
  unfold ROpenPost at hop
  rw [hfd] at hop hr0 hr1 hhas
  have HOP := hid hop
  by_cases h0 : fd < 0
  · have hend : ∀ u, RLft w q L u (N + 2) (openSt S nm 0) → RRfPost w q L N S nm (.returned (.tuple #[.string ⟨#[]⟩, .bool false])) u := fun u hl => by
      have e1 : rfTx S nm = [] := by unfold rfTx; rw [hfd, if_pos h0]
      refine ⟨by rw [hfd, e1]; simp [str]; omega, ?_⟩
      unfold St.rfile
      rw [hfd, if_pos h0]
      have e : openSt S nm 0 = S := by unfold openSt; rw [hfd, if_pos h0]
      rw [e] at hl
      exact hl
    have HE := hid hend
    clear hop hend hfd h hN hs hhas
    go_enter Try.func43, Try.ntmps43
    go_wp2_with (go_at_call 34; refine HOP.out.mono ?_; rintro e w1 ⟨rfl, hl1⟩)
    go_ret2
    exact HE.out _ hl1
  · have hcl : ∀ u, RLft w q L u (N + 2) (openSt S nm 0) → Calls Try.prog 38 #[.pointer (some ⟨q, 0, none⟩), .int .i64 fd] u fun e w' => ∃ r, e = .returned (.int .i64 r) ∧ RLft w q L w' (N + 2) ((openSt S nm 0).close fd) := fun u hl => by
      obtain ⟨L1, h1, t1, hl1⟩ := hl
      exact (rclose_raw u q L1 _ _ h1 fd (by omega) (by omega)).mono (fun e w' ⟨h1, h2⟩ => ⟨_, h1, h2.trans t1 hl1⟩)
    have hend : ∀ u, RLft w q L u (N + 2) ((openSt S nm 0).close fd) → RRfPost w q L N S nm (.returned (.tuple #[.string (str ((S.fs nm.data.toList).getD [])), .bool true])) u := fun u hl => by
      have e1 : rfTx S nm = (S.fs nm.data.toList).getD [] := by unfold rfTx; rw [hfd, if_neg h0]
      refine ⟨by rw [hfd, e1]; simp; omega, ?_⟩
      unfold St.rfile
      rw [hfd, if_neg h0]
      exact hl
    have hlk : ∀ u, RLft w q L u (N + 2) ((openSt S nm 0).close fd) → ∃ (g i nl cap : Nat) (ab : Option Addr) (B cb : Nat), u.cell? ⟨q, 0, none⟩ = some (.slice (some ⟨g, 0, none⟩) nl cap) ∧ q < u.heap.size ∧ g < u.heap.size ∧ (i : Int) < (nl : Int) ∧ nl ≤ N + 2 ∧ u.cell? ⟨g, i * 2 + 1, none⟩ = some (.slice ab B cb) ∧ Hid (∀ n, (convert 64 9 (.slice ab B cb)).run Try.prog (u.drewN n) = .ok (.string (str ((S.fs nm.data.toList).getD []))) (u.drewN n)) ∧ Hid (∀ u', Tn No u u' → Calls Try.prog 30 #[.pointer (some ⟨q, 0, none⟩), .string nm] u' fun e w' => e = .returned (.int .i64 ((i : Nat) : Int)) ∧ w' = u') := fun u hl => by
      obtain ⟨L1, ⟨fl, d, lv, tv, bv, hx⟩, _, _⟩ := hl
      have hfs : (((openSt S nm 0).close fd).fs nm.data.toList).isSome = true := by
        rw [fs_close, fs_openR]
        exact hhas h0
      obtain ⟨i, hi, hfi, hfn, hfb⟩ := hx.file nm hfs
      rw [fs_close, fs_openR] at hfb
      obtain ⟨g, cap, rfl, hgl, hlc, hcm, hfz, hlab, hgq, hgd⟩ := hx.rowFree i hi
      obtain ⟨a1, a2, hbr, hbl, hbN, hb6⟩ := hx.lc i hi
      obtain ⟨ab, cb, hbv, hbc, hbm, hbnil, hbsome⟩ := hbr.rw.form
      rw [hbv] at a2 hbr
      refine ⟨g, i, fl.length, cap, ab, _, cb, hx.c0, hx.qlt, hgl, by omega, hx.len, by rw [show i * 2 + 1 = 2 * i + 1 by omega]; exact a2, hid (fun n => ?_), hid (fun u' t => ?_)⟩
      · rw [hfb]
        exact br_string (w := u.drewN n) (hbr.kept (fun _ _ => rfl))
      · have := find_raw u' q L1 (N + 2) _ fl d _ tv bv (hx.no t) nm (by omega)
        rw [hfi] at this
        exact this
    have HE := hid hend
    have HCL := hid hcl
    have HLK := hid hlk
    clear hop hend hcl hlk hfd h hs hhas
    go_enter Try.func43, Try.ntmps43
    go_wp2_with (first
      | (go_at_call 34; refine HOP.out.mono ?_; rintro e w1 ⟨rfl, hl1⟩)
      | (go_at_call 38; refine (HCL.out _ hl1).mono ?_; rintro e w3 ⟨r3, rfl, hl3⟩; obtain ⟨g, i, nl, cap, ab, B, cb, k0, p3, g3, hi3, hnl, kb, HCV, HF⟩ := HLK.out _ hl3))
    have hcv := HCV.out
    go_quiet ((go_at_call 30; exact Calls.quiet_of_same (HF.out _ (by repeat (first | exact Tn.refl _ _ | apply Tn.drew | apply Tn.drewN | apply Tn.alloc | (refine Tn.then ?_ (by assumption)) | (refine Tn.thenNo ?_ (by assumption)))))))
    go_wp2_with fail
    go_ret2
    exact HE.out _ (hl3.no ((Tn.refl No _).drewN _))
end Go.Proofs.Ytkbdgdcicflocaa
