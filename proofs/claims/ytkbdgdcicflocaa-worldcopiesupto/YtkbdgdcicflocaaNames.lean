/-
  Out, WriteFile, ReadFile.
-/
import Derived.Test.YtkbdgdcicflocaaWriteA
import Derived.Test.YtkbdgdcicflocaaOpenA
namespace Go.Proofs.Ytkbdgdcicflocaa
set_option linter.unusedSimpArgs false
set_option linter.unusedVariables false
open Go.RowKit
attribute [local go_sem ↓] Go.wp_at_zero Go.wp_at_succ

set_option maxHeartbeats 1000000 in
set_option maxRecDepth 100000 in
theorem out_raw (p : Nat) (L : Nat → Option Lab) (N : Nat) (S : St) (s : ByteArray) (w : World) (h : PW w p L N S) (hw : WF S) (hN : N + N + 2 * s.size + 2 ≤ 1099511627776) :
    Calls Try.prog 17 #[.pointer (some ⟨p, 0, none⟩), .string s] w fun e w' => e = .returned (.tuple #[]) ∧ Lft w p L w' (N + 2 * s.size + 2) (S.write 1 s) := by
  have hwr := write_raw p L N S 1 s w h hw (by omega) (by omega) hN
  have HW := hid hwr
  clear hwr h hw hN
  go_enter Try.func17, Try.ntmps17
  go_wp2_with (go_at_call 18; refine HW.out.mono ?_; rintro e w1 ⟨rfl, hl1⟩)
  go_end0
  exact ⟨rfl, hl1⟩

/-! ### what stays right -/
theorem wf_de {S : St} (h : WF S) (i : Nat) (d : De) (hd : d.kind = 5 → (S.fs d.name.data.toList).isSome = true) : WF (S.setDe i d) := fun j hj hk => by
  by_cases e : j = i
  · subst e; simp only [St.setDe, upd_same] at hk ⊢; exact hd hk
  · simp only [St.setDe, upd_other _ _ e] at hk ⊢; exact h j hj hk
theorem wf_put {S : St} (h : WF S) (k l : List UInt8) : WF (S.put k l) := fun j hj hk => by
  have := h j hj hk
  simp only [St.put]
  split
  · rfl
  · exact this
theorem wf_tr {S : St} (h : WF S) (tr : List Ev) : WF { S with tr := tr } := h
theorem wf_say {S : St} (h : WF S) (k : Int) (nm : ByteArray) (t : List UInt8) : WF (S.say k nm t) := by
  unfold St.say
  split
  · exact h
  · split
    · split
      · exact h
      · exact h
    · exact h
theorem wf_open {S : St} (h : WF S) (s : ByteArray) (fl : Int) : WF (openSt S s fl) := by
  unfold openSt
  split
  · exact h
  · split
    · exact wf_de h _ _ (by intro e; simp at e)
    · unfold St.openW
      refine wf_tr ?_ _
      intro j hj hk
      by_cases e : j = (openRes S s fl).toNat
      · subst e
        simp only [St.put, St.setDe, upd_same, if_true]
        rfl
      · simp only [St.put, St.setDe, upd_other _ _ e] at hk ⊢
        split
        · rfl
        · exact h j hj hk
theorem wf_close {S : St} (h : WF S) (fd : Int) : WF (S.close fd) := by
  unfold St.close
  split
  · exact h
  · exact wf_de h _ _ (by intro e; simp [noDe] at e)
theorem wf_write {S : St} (h : WF S) (fd : Int) (s : ByteArray) : WF (S.write fd s) := by
  unfold St.write
  split
  · exact wf_say h _ _ _
  · split
    · exact wf_say h _ _ _
    · split
      · refine wf_say (wf_de (wf_put h _ _) _ _ (fun _ => ?_)) _ _ _
        simp [St.put]
      · exact h

/-! ### WriteFile -/
def St.wfile (S : St) (nm data : ByteArray) : St :=
  if openRes S nm 577 < 0 then S else ((openSt S nm 577).write (openRes S nm 577) data).close (openRes S nm 577)
def WfPost (w : World) (p : Nat) (L : Nat → Option Lab) (N : Nat) (S : St) (nm data : ByteArray) (e : Ending) (w' : World) : Prop :=
  e = .returned (.bool (decide (0 ≤ openRes S nm 577))) ∧ Lft w p L w' (N + 2 * data.size + 4) (S.wfile nm data)

theorem openRes_bd (S : St) (s : ByteArray) (fl : Int) : -36 ≤ openRes S s fl ∧ openRes S s fl < 19 := by
  unfold openRes
  split
  · omega
  · split
    · omega
    · split
      · omega
      · split
        · omega
        · rename_i k hf
          have hk : k < 19 := by
            have := List.mem_of_find?_eq_some hf
            simpa using this
          omega

set_option maxHeartbeats 1000000 in
set_option maxRecDepth 100000 in
theorem wfile_raw (p : Nat) (L : Nat → Option Lab) (N : Nat) (S : St) (nm data : ByteArray) (w : World) (h : PW w p L N S) (hw : WF S) (hs : nm.size ≤ maxLen) (hN : N + N + 2 * data.size + 6 ≤ 1099511627776) :
    Calls Try.prog 32 #[.pointer (some ⟨p, 0, none⟩), .string nm, .string data] w (WfPost w p L N S nm data) := by
  have hop := open_raw p L N S nm 577 w h (by omega) hs
  obtain ⟨hr0, hr1⟩ := openRes_bd S nm 577
  have hwf := wf_open hw nm 577
  obtain ⟨fd, hfd⟩ : ∃ fd, openRes S nm 577 = fd := ⟨_, rfl⟩
  unfold OpenPost at hop
  rw [hfd] at hop hr0 hr1
  have HOP := hid hop
  by_cases h0 : fd < 0
  · have hend : ∀ u, Lft w p L u (N + 2) (openSt S nm 577) → WfPost w p L N S nm data (.returned (.bool false)) u := fun u hl => by
      refine ⟨by rw [hfd]; simp; omega, ?_⟩
      unfold St.wfile
      rw [hfd, if_pos h0]
      have e : openSt S nm 577 = S := by unfold openSt; rw [hfd, if_pos h0]
      rw [e] at hl
      exact hl.mono (by omega)
    have HE := hid hend
    clear hop hend hfd hwf h hw hN hs
    go_enter Try.func32, Try.ntmps32
    go_wp2_with (go_at_call 21; refine HOP.out.mono ?_; rintro e w1 ⟨rfl, hl1⟩)
    go_ret
    exact HE.out _ hl1
  · have hwr : ∀ u, Lft w p L u (N + 2) (openSt S nm 577) → Calls Try.prog 18 #[.pointer (some ⟨p, 0, none⟩), .int .i64 fd, .string data] u fun e w' => ∃ r, e = .returned (.int .i64 r) ∧ Lft w p L w' (N + 2 * data.size + 4) ((openSt S nm 577).write fd data) := fun u hl => by
      obtain ⟨L1, h1, t1, hl1⟩ := hl
      refine (write_raw p L1 (N + 2) _ fd data u h1 hwf (by omega) (by omega) (by omega)).mono (fun e w' ⟨h1, h2⟩ => ⟨_, h1, ?_⟩)
      exact (h2.trans t1 hl1).mono (by omega)
    have hcl : ∀ u, Lft w p L u (N + 2 * data.size + 4) ((openSt S nm 577).write fd data) → Calls Try.prog 23 #[.pointer (some ⟨p, 0, none⟩), .int .i64 fd] u fun e w' => ∃ r, e = .returned (.int .i64 r) ∧ Lft w p L w' (N + 2 * data.size + 4) (((openSt S nm 577).write fd data).close fd) := fun u hl => by
      obtain ⟨L1, h1, t1, hl1⟩ := hl
      exact (close_raw p L1 _ _ fd u h1 (by omega) (by omega)).mono (fun e w' ⟨h1, h2⟩ => ⟨_, h1, h2.trans t1 hl1⟩)
    have hend : ∀ u, Lft w p L u (N + 2 * data.size + 4) (((openSt S nm 577).write fd data).close fd) → WfPost w p L N S nm data (.returned (.bool true)) u := fun u hl => by
      refine ⟨by rw [hfd]; simp; omega, ?_⟩
      unfold St.wfile
      rw [hfd, if_neg h0]
      exact hl
    have HE := hid hend
    have HWR := hid hwr
    have HCL := hid hcl
    clear hop hend hwr hcl hfd hwf h hw hN hs
    go_enter Try.func32, Try.ntmps32
    go_wp2_with (first
      | (go_at_call 21; refine HOP.out.mono ?_; rintro e w1 ⟨rfl, hl1⟩)
      | (go_at_call 18; refine (HWR.out _ hl1).mono ?_; rintro e w2 ⟨r2, rfl, hl2⟩)
      | (go_at_call 23; refine (HCL.out _ hl2).mono ?_; rintro e w3 ⟨r3, rfl, hl3⟩))
    go_ret
    exact HE.out _ hl3

/-! ### ReadFile -/
def St.rfile (S : St) (nm : ByteArray) : St := if openRes S nm 0 < 0 then S else (openSt S nm 0).close (openRes S nm 0)
def rfTx (S : St) (nm : ByteArray) : List UInt8 := if openRes S nm 0 < 0 then [] else (S.fs nm.data.toList).getD []
def RfPost (w : World) (p : Nat) (L : Nat → Option Lab) (N : Nat) (S : St) (nm : ByteArray) (e : Ending) (w' : World) : Prop :=
  e = .returned (.tuple #[.string (str (rfTx S nm)), .bool (decide (0 ≤ openRes S nm 0))]) ∧ Lft w p L w' (N + 2) (S.rfile nm)

theorem fs_close (S : St) (fd : Int) : (S.close fd).fs = S.fs := by unfold St.close; split <;> rfl
theorem fs_openR (S : St) (nm : ByteArray) : (openSt S nm 0).fs = S.fs := by
  unfold openSt
  split
  · rfl
  · rw [if_pos rfl]; rfl

set_option maxHeartbeats 1000000 in
set_option maxRecDepth 100000 in
theorem rfile_raw (p : Nat) (L : Nat → Option Lab) (N : Nat) (S : St) (nm : ByteArray) (w : World) (h : PW w p L N S) (hs : nm.size ≤ maxLen) (hN : N + 2 ≤ 1099511627776) :
    Calls Try.prog 22 #[.pointer (some ⟨p, 0, none⟩), .string nm] w (RfPost w p L N S nm) := by
  have hop := open_raw p L N S nm 0 w h (by omega) hs
  obtain ⟨hr0, hr1⟩ := openRes_bd S nm 0
  obtain ⟨fd, hfd⟩ : ∃ fd, openRes S nm 0 = fd := ⟨_, rfl⟩
  unfold OpenPost at hop
  rw [hfd] at hop hr0 hr1
  have HOP := hid hop
  by_cases h0 : fd < 0
  · have hend : ∀ u, Lft w p L u (N + 2) (openSt S nm 0) → RfPost w p L N S nm (.returned (.tuple #[.string ⟨#[]⟩, .bool false])) u := fun u hl => by
      have e1 : rfTx S nm = [] := by unfold rfTx; rw [hfd, if_pos h0]
      refine ⟨by rw [hfd, e1]; simp [str]; omega, ?_⟩
      unfold St.rfile
      rw [hfd, if_pos h0]
      have e : openSt S nm 0 = S := by unfold openSt; rw [hfd, if_pos h0]
      rw [e] at hl
      exact hl
    have HE := hid hend
    clear hop hend hfd h hN hs
    go_enter Try.func22, Try.ntmps22
    go_wp2_with (go_at_call 21; refine HOP.out.mono ?_; rintro e w1 ⟨rfl, hl1⟩)
    go_ret2
    exact HE.out _ hl1
  · have hcl : ∀ u, Lft w p L u (N + 2) (openSt S nm 0) → Calls Try.prog 23 #[.pointer (some ⟨p, 0, none⟩), .int .i64 fd] u fun e w' => ∃ r, e = .returned (.int .i64 r) ∧ Lft w p L w' (N + 2) ((openSt S nm 0).close fd) := fun u hl => by
      obtain ⟨L1, h1, t1, hl1⟩ := hl
      exact (close_raw p L1 _ _ fd u h1 (by omega) (by omega)).mono (fun e w' ⟨h1, h2⟩ => ⟨_, h1, h2.trans t1 hl1⟩)
    have hend : ∀ u, Lft w p L u (N + 2) ((openSt S nm 0).close fd) → RfPost w p L N S nm (.returned (.tuple #[.string (str ((S.fs nm.data.toList).getD [])), .bool true])) u := fun u hl => by
      have e1 : rfTx S nm = (S.fs nm.data.toList).getD [] := by unfold rfTx; rw [hfd, if_neg h0]
      refine ⟨by rw [hfd, e1]; simp; omega, ?_⟩
      unfold St.rfile
      rw [hfd, if_neg h0]
      exact hl
    have hlk : ∀ u, Lft w p L u (N + 2) ((openSt S nm 0).close fd) → ∃ mo v, u.cell? ⟨p, 0, none⟩ = some (.map mo) ∧ p < u.heap.size ∧ (Instr.lookup 65 (.map mo) (.string nm) false).run Try.prog u = .ok v u ∧ (convert 64 9 v).run Try.prog u = .ok (.string (str ((S.fs nm.data.toList).getD []))) u := fun u hl => by
      obtain ⟨L1, ⟨c, mo, iv, tv, vs, hx⟩, _, _⟩ := hl
      obtain ⟨v, _, hr, hbr, _⟩ := fm_look hx.fm nm hs
      rw [fs_close, fs_openR] at hbr
      exact ⟨mo, v, (hx.sc.cell 0 (by omega)).trans (by rw [hx.c0]), hx.sc.lt, hr, br_string hbr⟩
    have HE := hid hend
    have HCL := hid hcl
    have HLK := hid hlk
    clear hop hend hcl hlk hfd h hN hs
    go_enter Try.func22, Try.ntmps22
    go_wp2_with (first
      | (go_at_call 21; refine HOP.out.mono ?_; rintro e w1 ⟨rfl, hl1⟩)
      | (go_at_call 23; refine (HCL.out _ hl1).mono ?_; rintro e w3 ⟨r3, rfl, hl3⟩; obtain ⟨mo, v, k0, p3, hl, hcv⟩ := HLK.out _ hl3; have HL := hid hl; clear hl)
      | (at_lookup; refine wpList_look _ rfl _ _ false rfl mo rfl nm rfl _ HL.out ?_))
    go_ret2
    exact HE.out _ hl3
end Go.Proofs.Ytkbdgdcicflocaa
