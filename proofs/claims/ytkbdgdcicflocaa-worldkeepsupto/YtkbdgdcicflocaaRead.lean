/-
  SysWrite, SysRead.
-/
import Derived.Test.YtkbdgdcicflocaaWrite3
namespace Go.Proofs.Ytkbdgdcicflocaa
set_option linter.unusedSimpArgs false
set_option linter.unusedVariables false
open Go.RowKit
attribute [local go_sem ↓] Go.wp_at_zero Go.wp_at_succ

/-- a file that is to be written is there -/
def WF (S : St) : Prop := ∀ i, i < 19 → (S.ds i).kind = 5 → (S.fs (S.ds i).name.data.toList).isSome = true

theorem write_raw (p : Nat) (L : Nat → Option Lab) (N : Nat) (S : St) (fd : Int) (s : ByteArray) (w : World) (h : PW w p L N S) (hw : WF S) (h0 : -9223372036854775808 ≤ fd) (h1 : fd ≤ 9223372036854775807) (hN : N + N + 2 * s.size + 2 ≤ 1099511627776) :
    Calls Try.prog 18 #[.pointer (some ⟨p, 0, none⟩), .int .i64 fd, .string s] w (WritePost w p L N S fd s) := by
  by_cases hk : (S.at fd).kind = 2 ∨ (S.at fd).kind = 3
  · exact write_out p L N S fd s w h h0 h1 (by omega) hk
  by_cases hk5 : (S.at fd).kind = 5
  · have hr : 0 ≤ fd ∧ fd < 19 := by
      rcases Classical.em (0 ≤ fd ∧ fd < 19) with h | h
      · exact h
      · exfalso; unfold St.at at hk5; rw [if_neg h] at hk5; simp [noDe] at hk5
    have ha : S.at fd = S.ds fd.toNat := by unfold St.at; rw [if_pos hr]
    obtain ⟨i, rfl⟩ : ∃ i : Nat, fd = (i : Int) := ⟨fd.toNat, by omega⟩
    rw [Int.toNat_natCast] at ha
    rw [ha] at hk5
    exact write_file p L N S i s w h (by omega) hN hk5 (hw i (by omega) hk5)
  · exact write_no p L N S fd s w h h0 h1 (fun e => hk (.inl e)) (fun e => hk (.inr e)) hk5

/-! ### SysRead -/
def readTx (S : St) (fd : Int) (n : Nat) : List UInt8 :=
  if (S.at fd).kind = 1 then nx S.inp S.rd n else if (S.at fd).kind = 4 then nx ((S.fs (S.at fd).name.data.toList).getD []) (S.at fd).place n else []
def readRes (S : St) (fd : Int) (n : Nat) : Int := if (S.at fd).kind = 1 ∨ (S.at fd).kind = 4 then (readTx S fd n).length else -9
def St.sread (S : St) (fd : Int) (n : Nat) : St :=
  if (S.at fd).kind = 1 then S.read (readTx S fd n).length else if (S.at fd).kind = 4 then S.setDe fd.toNat { S.at fd with place := (S.at fd).place + (readTx S fd n).length } else S

def ReadPost (w : World) (p : Nat) (L : Nat → Option Lab) (N : Nat) (S : St) (fd : Int) (n : Nat) (e : Ending) (w' : World) : Prop :=
  e = .returned (.tuple #[.string (str (readTx S fd n)), .int .i64 (readRes S fd n)]) ∧ Lft w p L w' N (S.sread fd n)

set_option maxHeartbeats 1000000 in
set_option maxRecDepth 100000 in
theorem read_no (p : Nat) (L : Nat → Option Lab) (N : Nat) (S : St) (fd : Int) (n : Nat) (w : World) (h : PW w p L N S) (h0 : -9223372036854775808 ≤ fd) (h1 : fd ≤ 9223372036854775807) (hk : ¬ (S.at fd).kind = 1) (hk4 : ¬ (S.at fd).kind = 4) :
    Calls Try.prog 24 #[.pointer (some ⟨p, 0, none⟩), .int .i64 fd, .int .u64 (n : Int)] w (ReadPost w p L N S fd n) := by
  have hend : ∀ u, Tn No w u → ReadPost w p L N S fd n (.returned (.tuple #[.string ⟨#[]⟩, .int .i64 (-9)])) u := fun u t => by
    have e1 : readTx S fd n = [] := by unfold readTx; rw [if_neg hk, if_neg hk4]
    refine ⟨by unfold readRes; rw [if_neg (by simp [hk, hk4]), e1]; rfl, ?_⟩
    unfold St.sread
    rw [if_neg hk, if_neg hk4]
    exact h.same t
  have HE := hid hend
  obtain ⟨k, nm, pl, hd⟩ : ∃ k nm pl, S.at fd = ⟨k, nm, pl⟩ := ⟨_, _, _, rfl⟩
  have HAT := hid (at_is p L N S fd w h h0 h1 k nm pl hd)
  rw [hd] at hk hk4
  have d2 : (k == 1) = false := by simpa using hk
  have d3 : (k == 4) = false := by simpa using hk4
  clear hend hd h hk hk4 h0 h1
  go_enter Try.func24, Try.ntmps24
  go_wp2_with (go_at_call 50; refine (HAT.out _ (by repeat (first | exact Tn.refl _ _ | apply Tn.drew | apply Tn.drewN | apply Tn.alloc | (refine Tn.then ?_ (by assumption)) | (refine Tn.thenNo ?_ (by assumption))))).mono ?_; rintro e w1 ⟨rfl, ht1⟩)
  go_ret2
  exact HE.out _ (by repeat (first | exact Tn.refl _ _ | apply Tn.drew | apply Tn.drewN | apply Tn.alloc | (refine Tn.then ?_ (by assumption)) | (refine Tn.thenNo ?_ (by assumption))))

set_option maxHeartbeats 1000000 in
set_option maxRecDepth 100000 in
theorem read_in (p : Nat) (L : Nat → Option Lab) (N : Nat) (S : St) (fd : Int) (n : Nat) (w : World) (h : PW w p L N S) (h0 : -9223372036854775808 ≤ fd) (h1 : fd ≤ 9223372036854775807) (hn : n ≤ 18446744073709551615) (hk : (S.at fd).kind = 1) :
    Calls Try.prog 24 #[.pointer (some ⟨p, 0, none⟩), .int .i64 fd, .int .u64 (n : Int)] w (ReadPost w p L N S fd n) := by
  have hrt : readTx S fd n = nx S.inp S.rd n := by unfold readTx; rw [if_pos hk]
  have hend : ∀ u, Lft w p L u N (S.read (nx S.inp S.rd n).length) → ReadPost w p L N S fd n (.returned (.tuple #[.string (str (nx S.inp S.rd n)), .int .i64 ((nx S.inp S.rd n).length : Int)])) u := fun u hl => by
    refine ⟨by unfold readRes; rw [if_pos (.inl hk), hrt], ?_⟩
    unfold St.sread
    rw [if_pos hk, hrt]
    exact hl
  have HE := hid hend
  have htk : ∀ u, Tn No w u → Calls Try.prog 55 #[.pointer (some ⟨p, 0, none⟩), .int .u64 (n : Int)] u fun e w' => e = .returned (.string (str (nx S.inp S.rd n))) ∧ Lft w p L w' N (S.read (nx S.inp S.rd n).length) := fun u t => by
    have := take_raw p L N S (n : Int) u (h.no t) (by omega) (by omega)
    rw [Int.toNat_natCast] at this
    exact this.mono (fun e w' ⟨h1, h2⟩ => ⟨h1, h2.trans t.any (fun _ _ e => e)⟩)
  have HTK := hid htk
  have hsz : (str (nx S.inp S.rd n)).size = (nx S.inp S.rd n).length := str_size _
  have hlen : (nx S.inp S.rd n).length ≤ 9223372036854775807 := by
    obtain ⟨c, mo, iv, tv, vs, hx⟩ := h
    obtain ⟨_, _, _, a, b, _⟩ := hx.inp.rw.form
    have : (nx S.inp S.rd n).length ≤ S.inp.length := by simp [nx]; omega
    omega
  obtain ⟨k, nm, pl, hd⟩ : ∃ k nm pl, S.at fd = ⟨k, nm, pl⟩ := ⟨_, _, _, rfl⟩
  have HAT := hid (at_is p L N S fd w h h0 h1 k nm pl hd)
  have hk' : k = 1 := by rw [hd] at hk; exact hk
  subst hk'
  obtain ⟨t, ht⟩ : ∃ t, nx S.inp S.rd n = t := ⟨_, rfl⟩
  rw [ht] at HE HTK hsz hlen
  obtain ⟨st, hst⟩ : ∃ st, str t = st := ⟨_, rfl⟩
  rw [hst] at HE HTK hsz
  clear hend hd h hk h0 h1 htk hn hrt ht hst
  go_enter Try.func24, Try.ntmps24
  go_wp2_with (first
    | (go_at_call 50; refine (HAT.out _ (by repeat (first | exact Tn.refl _ _ | apply Tn.drew | apply Tn.drewN | apply Tn.alloc | (refine Tn.then ?_ (by assumption)) | (refine Tn.thenNo ?_ (by assumption))))).mono ?_; rintro e w1 ⟨rfl, ht1⟩)
    | (go_at_call 55; refine (HTK.out _ (by repeat (first | exact Tn.refl _ _ | apply Tn.drew | apply Tn.drewN | apply Tn.alloc | (refine Tn.then ?_ (by assumption)) | (refine Tn.thenNo ?_ (by assumption))))).mono ?_; rintro e w2 ⟨rfl, hl2⟩))
  go_ret2
  exact HE.out _ hl2
end Go.Proofs.Ytkbdgdcicflocaa
