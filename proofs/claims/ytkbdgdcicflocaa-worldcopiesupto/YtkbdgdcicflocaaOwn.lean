/-
  A world that the law itself made: the calls on it.
-/
import Derived.Test.YtkbdgdcicflocaaNames
import Derived.Test.YtkbdgdcicflocaaTrace
import Derived.Test.YtkbdgdcicflocaaNew
namespace Go.Proofs.Ytkbdgdcicflocaa
set_option linter.unusedSimpArgs false
set_option linter.unusedVariables false
open Go.RowKit

/-- since w a world S was made at p: nothing old has turned -/
def Own (w u : World) (p N : Nat) (S : St) : Prop := ∃ L, PW u p L N S ∧ Tn No w u ∧ ∀ k, L k ≠ none → w.heap.size ≤ k

theorem Own.step {w u u' : World} {p N N' : Nat} {S S' : St} (h : Own w u p N S) (hs : ∀ L, PW u p L N S → Lft u p L u' N' S') : Own w u' p N' S' := by
  obtain ⟨L, hp, t, hl⟩ := h
  obtain ⟨L', hp', t', hl'⟩ := hs L hp
  refine ⟨L', hp', t.trans t' (fun _ _ e => e) (fun i hi e => absurd (hl i e) (by omega)), fun k hk => ?_⟩
  rcases Nat.lt_or_ge k u.heap.size with h1 | h1
  · exact hl k (fun e => hk (hl' k h1 e))
  · exact Nat.le_trans t.size h1
theorem Own.tn {w u : World} {p N : Nat} {S : St} (h : Own w u p N S) : Tn No w u := h.choose_spec.2.1
theorem Own.no {w u u' : World} {p N : Nat} {S : St} (h : Own w u p N S) (t : Tn No u u') : Own w u' p N S := by
  obtain ⟨L, hp, t0, hl⟩ := h
  exact ⟨L, hp.no t, t0.then t, hl⟩
theorem Own.plt {w u : World} {p N : Nat} {S : St} (h : Own w u p N S) : p < u.heap.size ∧ w.heap.size ≤ p := by
  obtain ⟨L, hp, _, hl⟩ := h
  exact ⟨hp.plt, hl p (by rw [hp.labs]; simp)⟩
theorem Own.mono {w u : World} {p N N' : Nat} {S : St} (h : Own w u p N S) (hN : N ≤ N') : Own w u p N' S := by
  obtain ⟨L, hp, r⟩ := h
  exact ⟨L, hp.mono hN, r⟩

theorem own_new (s : ByteArray) (w w0 : World) (t : Tn No w w0) (hs : s.size ≤ maxLen) : Calls Try.prog 9 #[.agg #[.string s, .slice none 0 0]] w0 fun e u => ∃ p, e = .returned (.pointer (some ⟨p, 0, none⟩)) ∧ Own w u p 0 (initSt (fun _ => none) s) ∧ Tn No w0 u :=
  (new_nil s w0 hs).mono (fun e u ⟨p, L, he, hp, t', hl⟩ => ⟨p, he, ⟨L, hp, t.then t', fun k hk => Nat.le_trans t.size (hl k hk)⟩, t'⟩)

theorem own_line {w u : World} {p N : Nat} {S : St} (h : Own w u p N S) : Calls Try.prog 25 #[.pointer (some ⟨p, 0, none⟩)] u fun e u' => e = .returned (.string (str (nx S.inp S.rd (lineLen (S.inp.drop S.rd))))) ∧ Own w u' p N (S.read (lineLen (S.inp.drop S.rd))) := by
  obtain ⟨L, hp, r⟩ := h
  have h0 : Own w u p N S := ⟨L, hp, r⟩
  refine (line_raw p L N S u hp).mono (fun e u' ⟨h1, h2⟩ => ⟨h1, ?_⟩)
  obtain ⟨L', a, b, c⟩ := h2
  obtain ⟨t, hl⟩ := r
  refine ⟨L', a, t.trans b (fun _ _ e => e) (fun i hi e => absurd (hl i e) (by omega)), fun k hk => ?_⟩
  rcases Nat.lt_or_ge k u.heap.size with h1 | h1
  · exact hl k (fun e => hk (c k h1 e))
  · exact Nat.le_trans t.size h1

/-- what a call leaves of it -/
theorem Own.lft {w u u' : World} {p N' : Nat} {S' : St} {L : Nat → Option Lab} (t : Tn No w u) (hl : ∀ k, L k ≠ none → w.heap.size ≤ k) (h : Lft u p L u' N' S') : Own w u' p N' S' := by
  obtain ⟨L', a, b, c⟩ := h
  refine ⟨L', a, t.trans b (fun _ _ e => e) (fun i hi e => absurd (hl i e) (by omega)), fun k hk => ?_⟩
  rcases Nat.lt_or_ge k u.heap.size with h1 | h1
  · exact hl k (fun e => hk (c k h1 e))
  · exact Nat.le_trans t.size h1

theorem own_wfile {w u : World} {p N : Nat} {S : St} (h : Own w u p N S) (hw : WF S) (nm data : ByteArray) (hs : nm.size ≤ maxLen) (hN : N + N + 2 * data.size + 6 ≤ 1099511627776) :
    Calls Try.prog 32 #[.pointer (some ⟨p, 0, none⟩), .string nm, .string data] u fun e u' => e = .returned (.bool (decide (0 ≤ openRes S nm 577))) ∧ Own w u' p (N + 2 * data.size + 4) (S.wfile nm data) := by
  obtain ⟨L, hp, t, hl⟩ := h
  exact (wfile_raw p L N S nm data u hp hw hs hN).mono (fun e u' ⟨h1, h2⟩ => ⟨h1, Own.lft t hl h2⟩)
theorem own_rfile {w u : World} {p N : Nat} {S : St} (h : Own w u p N S) (nm : ByteArray) (hs : nm.size ≤ maxLen) (hN : N + 2 ≤ 1099511627776) :
    Calls Try.prog 22 #[.pointer (some ⟨p, 0, none⟩), .string nm] u fun e u' => e = .returned (.tuple #[.string (str (rfTx S nm)), .bool (decide (0 ≤ openRes S nm 0))]) ∧ Own w u' p (N + 2) (S.rfile nm) := by
  obtain ⟨L, hp, t, hl⟩ := h
  exact (rfile_raw p L N S nm u hp hs hN).mono (fun e u' ⟨h1, h2⟩ => ⟨h1, Own.lft t hl h2⟩)
theorem own_out {w u : World} {p N : Nat} {S : St} (h : Own w u p N S) (hw : WF S) (s : ByteArray) (hN : N + N + 2 * s.size + 2 ≤ 1099511627776) :
    Calls Try.prog 17 #[.pointer (some ⟨p, 0, none⟩), .string s] u fun e u' => e = .returned (.tuple #[]) ∧ Own w u' p (N + 2 * s.size + 2) (S.write 1 s) := by
  obtain ⟨L, hp, t, hl⟩ := h
  exact (out_raw p L N S s u hp hw hN).mono (fun e u' ⟨h1, h2⟩ => ⟨h1, Own.lft t hl h2⟩)
theorem own_write {w u : World} {p N : Nat} {S : St} (h : Own w u p N S) (hw : WF S) (fd : Int) (s : ByteArray) (h0 : -9223372036854775808 ≤ fd) (h1 : fd ≤ 9223372036854775807) (hN : N + N + 2 * s.size + 2 ≤ 1099511627776) :
    Calls Try.prog 18 #[.pointer (some ⟨p, 0, none⟩), .int .i64 fd, .string s] u fun e u' => e = .returned (.int .i64 (writeRes S fd s)) ∧ Own w u' p (N + 2 * s.size + 2) (S.write fd s) := by
  obtain ⟨L, hp, t, hl⟩ := h
  exact (write_raw p L N S fd s u hp hw h0 h1 hN).mono (fun e u' ⟨h1, h2⟩ => ⟨h1, Own.lft t hl h2⟩)
theorem own_open {w u : World} {p N : Nat} {S : St} (h : Own w u p N S) (nm : ByteArray) (fl : Int) (hs : nm.size ≤ maxLen) (hN : N + 2 ≤ 1099511627776) :
    Calls Try.prog 21 #[.pointer (some ⟨p, 0, none⟩), .string nm, .int .i64 fl] u fun e u' => e = .returned (.int .i64 (openRes S nm fl)) ∧ Own w u' p (N + 2) (openSt S nm fl) := by
  obtain ⟨L, hp, t, hl⟩ := h
  exact (open_raw p L N S nm fl u hp hN hs).mono (fun e u' ⟨h1, h2⟩ => ⟨h1, Own.lft t hl h2⟩)
theorem own_close {w u : World} {p N : Nat} {S : St} (h : Own w u p N S) (fd : Int) (h0 : -9223372036854775808 ≤ fd) (h1 : fd ≤ 9223372036854775807) :
    Calls Try.prog 23 #[.pointer (some ⟨p, 0, none⟩), .int .i64 fd] u fun e u' => e = .returned (.int .i64 (closeRes S fd)) ∧ Own w u' p N (S.close fd) := by
  obtain ⟨L, hp, t, hl⟩ := h
  exact (close_raw p L N S fd u hp h0 h1).mono (fun e u' ⟨h1, h2⟩ => ⟨h1, Own.lft t hl h2⟩)
theorem own_trace {w u : World} {p N : Nat} {S : St} (h : Own w u p N S) (hN : N ≤ 1099511627776) :
    Calls Try.prog 19 #[.pointer (some ⟨p, 0, none⟩)] u fun e u' => ∃ v, e = .returned v ∧ TV u' v S.tr ∧ Tn No u u' := by
  obtain ⟨L, hp, t, hl⟩ := h
  exact (trace_raw p L N S u hp hN).mono (fun e u' ⟨v, h1, h2, _, h4⟩ => ⟨v, h1, h2, h4⟩)

/-! ### known -/
def bf : ByteArray := ⟨#[102]⟩
def bxyz : ByteArray := ⟨#[120, 121, 122]⟩
def bq : ByteArray := ⟨#[113]⟩
def K0 : St := initSt (fun _ => none) ⟨#[97, 98, 10, 99]⟩
def K1 : St := K0.read (lineLen (K0.inp.drop K0.rd))
def K2 : St := K1.wfile bf bxyz
def K3 : St := K2.rfile bf
def K4 : St := K3.write 1 bq
theorem wf_init (fs : List UInt8 → Option (List UInt8)) (s : ByteArray) : WF (initSt fs s) := fun i _ hk => by
  exfalso
  simp only [initSt, initDs] at hk
  revert hk
  split
  · simp
  · split
    · simp
    · split
      · simp
      · simp [noDe]
theorem wf_read {S : St} (h : WF S) (n : Nat) : WF (S.read n) := h
theorem wf_wfile {S : St} (h : WF S) (nm data : ByteArray) : WF (S.wfile nm data) := by
  unfold St.wfile
  split
  · exact h
  · exact wf_close (wf_write (wf_open h _ _) _ _) _
theorem wf_rfile {S : St} (h : WF S) (nm : ByteArray) : WF (S.rfile nm) := by
  unfold St.rfile
  split
  · exact h
  · exact wf_close (wf_open h _ _) _
theorem k_line : str (nx K0.inp K0.rd (lineLen (K0.inp.drop K0.rd))) = ⟨#[97, 98, 10]⟩ := by kernel_rfl
theorem k_wf : decide (0 ≤ openRes K1 bf 577) = true := by kernel_rfl
theorem k_rf : decide (0 ≤ openRes K2 bf 0) = true := by kernel_rfl
theorem k_rt : str (rfTx K2 bf) = bxyz := by kernel_rfl
theorem k_tr : K4.tr = [⟨3, bf, [120, 121, 122]⟩, ⟨1, noName, [113]⟩] := by kernel_rfl
theorem wf_k1 : WF K1 := wf_read (wf_init _ _) _
theorem wf_k3 : WF K3 := wf_rfile (wf_wfile wf_k1 _ _) _
end Go.Proofs.Ytkbdgdcicflocaa
