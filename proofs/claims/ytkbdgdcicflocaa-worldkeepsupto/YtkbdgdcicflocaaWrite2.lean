/-
  SysWrite: the walk.
-/
import Derived.Test.YtkbdgdcicflocaaWrite
import Derived.Test.YtkbdgdcicflocaaSay2
namespace Go.Proofs.Ytkbdgdcicflocaa
set_option linter.unusedSimpArgs false
set_option linter.unusedVariables false
open Go.RowKit
attribute [local go_sem ↓] Go.wp_at_zero Go.wp_at_succ

def noName : ByteArray := ⟨#[]⟩
/-- what SysWrite leaves -/
def St.write (S : St) (fd : Int) (s : ByteArray) : St :=
  if (S.at fd).kind = 2 then S.say 1 noName s.data.toList else if (S.at fd).kind = 3 then S.say 2 noName s.data.toList else if (S.at fd).kind = 5 then
    ((S.layF (S.at fd).name (S.at fd).place s.data.toList).setDe fd.toNat { S.at fd with place := (S.at fd).place + s.size }).say 3 (S.at fd).name s.data.toList
  else S
def writeRes (S : St) (fd : Int) (s : ByteArray) : Int := if (S.at fd).kind = 2 ∨ (S.at fd).kind = 3 ∨ (S.at fd).kind = 5 then s.size else -9

def WritePost (w : World) (p : Nat) (L : Nat → Option Lab) (N : Nat) (S : St) (fd : Int) (s : ByteArray) (e : Ending) (w' : World) : Prop :=
  e = .returned (.int .i64 (writeRes S fd s)) ∧ Lft w p L w' (N + 2 * s.size + 2) (S.write fd s)

/-- 'at', as the walks take it -/
theorem at_is (p : Nat) (L : Nat → Option Lab) (N : Nat) (S : St) (fd : Int) (w : World) (h : PW w p L N S) (h0 : -9223372036854775808 ≤ fd) (h1 : fd ≤ 9223372036854775807) (k : Int) (nm : ByteArray) (pl : Nat) (hd : S.at fd = ⟨k, nm, pl⟩) :
    ∀ u, Tn No w u → Calls Try.prog 50 #[.pointer (some ⟨p, 0, none⟩), .int .i64 fd] u fun e w' => e = .returned (.agg #[.int .i64 k, .string nm, .int .i64 (pl : Int)]) ∧ Tn No u w' := fun u t => by
  have := at_raw p L N S fd u (h.no t) h0 h1
  rw [hd] at this
  exact this

set_option maxHeartbeats 1000000 in
set_option maxRecDepth 100000 in
theorem write_no (p : Nat) (L : Nat → Option Lab) (N : Nat) (S : St) (fd : Int) (s : ByteArray) (w : World) (h : PW w p L N S) (h0 : -9223372036854775808 ≤ fd) (h1 : fd ≤ 9223372036854775807) (hk : ¬ (S.at fd).kind = 2) (hk3 : ¬ (S.at fd).kind = 3) (hk5 : ¬ (S.at fd).kind = 5) :
    Calls Try.prog 18 #[.pointer (some ⟨p, 0, none⟩), .int .i64 fd, .string s] w (WritePost w p L N S fd s) := by
  have hend : ∀ u, Tn No w u → WritePost w p L N S fd s (.returned (.int .i64 (-9))) u := fun u t => by
    refine ⟨by unfold writeRes; rw [if_neg (by simp [hk, hk3, hk5])], ?_⟩
    unfold St.write
    rw [if_neg hk, if_neg hk3, if_neg hk5]
    exact (h.same t).mono (by omega)
  have HE := hid hend
  obtain ⟨k, nm, pl, hd⟩ : ∃ k nm pl, S.at fd = ⟨k, nm, pl⟩ := ⟨_, _, _, rfl⟩
  have HAT := hid (at_is p L N S fd w h h0 h1 k nm pl hd)
  rw [hd] at hk hk3 hk5
  have d2 : (k == 2) = false := by simpa using hk
  have d3 : (k == 3) = false := by simpa using hk3
  have d5 : (k == 5) = false := by simpa using hk5
  clear hend hd h hk hk3 hk5 h0 h1
  go_enter Try.func18, Try.ntmps18
  go_wp2_with (go_at_call 50; refine (HAT.out _ (by repeat (first | exact Tn.refl _ _ | apply Tn.drew | apply Tn.drewN | apply Tn.alloc | (refine Tn.then ?_ (by assumption)) | (refine Tn.thenNo ?_ (by assumption))))).mono ?_; rintro e w1 ⟨rfl, ht1⟩)
  go_ret
  exact HE.out _ (by repeat (first | exact Tn.refl _ _ | apply Tn.drew | apply Tn.drewN | apply Tn.alloc | (refine Tn.then ?_ (by assumption)) | (refine Tn.thenNo ?_ (by assumption))))

set_option maxHeartbeats 1000000 in
set_option maxRecDepth 100000 in
theorem write_out (p : Nat) (L : Nat → Option Lab) (N : Nat) (S : St) (fd : Int) (s : ByteArray) (w : World) (h : PW w p L N S) (h0 : -9223372036854775808 ≤ fd) (h1 : fd ≤ 9223372036854775807) (hN : N + s.size + 1 ≤ 1099511627776) (hk : (S.at fd).kind = 2 ∨ (S.at fd).kind = 3) :
    Calls Try.prog 18 #[.pointer (some ⟨p, 0, none⟩), .int .i64 fd, .string s] w (WritePost w p L N S fd s) := by
  have hs63 : (s.size : Int) ≤ 9223372036854775807 := by omega
  obtain ⟨k, nm, pl, hd⟩ : ∃ k nm pl, S.at fd = ⟨k, nm, pl⟩ := ⟨_, _, _, rfl⟩
  have HAT := hid (at_is p L N S fd w h h0 h1 k nm pl hd)
  have hsay : ∀ j u, Tn No w u → Calls Try.prog 51 #[.pointer (some ⟨p, 0, none⟩), .int .i64 j, .string ⟨#[]⟩, .string s] u fun e w' => e = .returned (.tuple #[]) ∧ Lft w p L w' (N + s.size + 1) (S.say j noName s.data.toList) := fun j u t =>
    (say_raw p L N S j noName s u (h.no t) hN).mono (fun e w' ⟨h1, h2⟩ => ⟨h1, h2.trans t.any (fun _ _ e => e)⟩)
  have HS := hid hsay
  rcases hk with hk | hk
  · have hend : ∀ u, Lft w p L u (N + s.size + 1) (S.say 1 noName s.data.toList) → WritePost w p L N S fd s (.returned (.int .i64 (s.size : Int))) u := fun u hl => by
      refine ⟨by unfold writeRes; rw [if_pos (.inl hk)], ?_⟩
      unfold St.write
      rw [if_pos hk]
      exact hl.mono (by omega)
    have HE := hid hend
    rw [hd] at hk
    have hk' : k = 2 := hk
    subst hk'
    clear hend hd h h0 h1 hsay hk hN
    go_enter Try.func18, Try.ntmps18
    go_wp2_with (first
      | (go_at_call 50; refine (HAT.out _ (by repeat (first | exact Tn.refl _ _ | apply Tn.drew | apply Tn.drewN | apply Tn.alloc | (refine Tn.then ?_ (by assumption)) | (refine Tn.thenNo ?_ (by assumption))))).mono ?_; rintro e w1 ⟨rfl, ht1⟩)
      | (go_at_call 51; refine (HS.out 1 _ (by repeat (first | exact Tn.refl _ _ | apply Tn.drew | apply Tn.drewN | apply Tn.alloc | (refine Tn.then ?_ (by assumption)) | (refine Tn.thenNo ?_ (by assumption))))).mono ?_; rintro e w2 ⟨rfl, hl2⟩))
    go_ret
    exact HE.out _ hl2
  · have hend : ∀ u, Lft w p L u (N + s.size + 1) (S.say 2 noName s.data.toList) → WritePost w p L N S fd s (.returned (.int .i64 (s.size : Int))) u := fun u hl => by
      refine ⟨by unfold writeRes; rw [if_pos (.inr (.inl hk))], ?_⟩
      unfold St.write
      rw [if_neg (by rw [hk]; omega), if_pos hk]
      exact hl.mono (by omega)
    have HE := hid hend
    rw [hd] at hk
    have hk' : k = 3 := hk
    subst hk'
    clear hend hd h h0 h1 hsay hk hN
    go_enter Try.func18, Try.ntmps18
    go_wp2_with (first
      | (go_at_call 50; refine (HAT.out _ (by repeat (first | exact Tn.refl _ _ | apply Tn.drew | apply Tn.drewN | apply Tn.alloc | (refine Tn.then ?_ (by assumption)) | (refine Tn.thenNo ?_ (by assumption))))).mono ?_; rintro e w1 ⟨rfl, ht1⟩)
      | (go_at_call 51; refine (HS.out 2 _ (by repeat (first | exact Tn.refl _ _ | apply Tn.drew | apply Tn.drewN | apply Tn.alloc | (refine Tn.then ?_ (by assumption)) | (refine Tn.thenNo ?_ (by assumption))))).mono ?_; rintro e w2 ⟨rfl, hl2⟩))
    go_ret
    exact HE.out _ hl2
end Go.Proofs.Ytkbdgdcicflocaa
