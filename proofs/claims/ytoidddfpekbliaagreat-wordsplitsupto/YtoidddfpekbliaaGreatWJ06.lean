/-
  SysWrite: the walk.
-/
import Derived.Test.YtoidddfpekbliaaGreatWJ03
import Derived.Test.YtoidddfpekbliaaGreatSay2
import Derived.Test.YtoidddfpekbliaaGreatWJ04
import Derived.Deep.LoopGhost
import Derived.Test.YtoidddfpekbliaaGreatWJ01
namespace Go.Proofs.YtoidddfpekbliaaGreat
set_option linter.unusedSimpArgs false
set_option linter.unusedVariables false
open Go.RowKit
attribute [local go_sem ↓] Go.wp_at_zero Go.wp_at_succ

def noName : ByteArray := ⟨#[]⟩
/-- what SysWrite leaves -/
def St.write (S : St) (fd : Int) (s : ByteArray) : St :=
  if (S.at fd).kind = 2 then S.say 1 noName s.data.toList else if (S.at fd).kind = 3 then S.say 2 noName s.data.toList else if (S.at fd).kind = 5 then
    ((S.layF (S.at fd).name (S.at fd).place s.data.toList).setDe fd.toNat { S.at fd with place := (S.at fd).place + s.size }).say 3 (S.at fd).name s.data.toList
  else S
def writeRes (S : St) (fd : Int) (s : ByteArray) : Int := if (S.at fd).kind = 2 ∨ (S.at fd).kind = 3 ∨ (S.at fd).kind = 5 then s.size else -9

def WritePost (w : World) (p : Nat) (L : Nat → Option Lab) (N : Nat) (S : St) (fd : Int) (s : ByteArray) (e : Ending) (w' : World) : Prop :=
  e = .returned (.int .i64 (writeRes S fd s)) ∧ Lft w p L w' (N + 2 * s.size + 2) (S.write fd s)

/-- 'at', as the walks take it -/
theorem at_is (p : Nat) (L : Nat → Option Lab) (N : Nat) (S : St) (fd : Int) (w : World) (h : PW w p L N S) (h0 : -9223372036854775808 ≤ fd) (h1 : fd ≤ 9223372036854775807) (k : Int) (nm : ByteArray) (pl : Nat) (hd : S.at fd = ⟨k, nm, pl⟩) :
    ∀ u, Tn No w u → Calls Tryz.prog 165 #[.pointer (some ⟨p, 0, none⟩), .int .i64 fd] u fun e w' => e = .returned (.agg #[.int .i64 k, .string nm, .int .i64 (pl : Int)]) ∧ Tn No u w' := fun u t => by
  have := at_raw p L N S fd u (h.no t) h0 h1
  rw [hd] at this
  exact this

set_option maxHeartbeats 1000000 in
set_option maxRecDepth 100000 in
theorem write_no (p : Nat) (L : Nat → Option Lab) (N : Nat) (S : St) (fd : Int) (s : ByteArray) (w : World) (h : PW w p L N S) (h0 : -9223372036854775808 ≤ fd) (h1 : fd ≤ 9223372036854775807) (hk : ¬ (S.at fd).kind = 2) (hk3 : ¬ (S.at fd).kind = 3) (hk5 : ¬ (S.at fd).kind = 5) :
    Calls Tryz.prog 163 #[.pointer (some ⟨p, 0, none⟩), .int .i64 fd, .string s] w (WritePost w p L N S fd s) := by
  have hend : ∀ u, Tn No w u → WritePost w p L N S fd s (.returned (.int .i64 (-9))) u := fun u t => by
    refine ⟨by unfold writeRes; rw [if_neg (by simp [hk, hk3, hk5])], ?_⟩
    unfold St.write
    rw [if_neg hk, if_neg hk3, if_neg hk5]
    exact (h.same t).mono (by omega)
  have HE := hid hend
  obtain ⟨k, nm, pl, hd⟩ : ∃ k nm pl, S.at fd = ⟨k, nm, pl⟩ := ⟨_, _, _, rfl⟩
  have HAT := hid (at_is p L N S fd w h h0 h1 k nm pl hd)
  rw [hd] at hk hk3 hk5
  have d2 : (k == 2) = false := by simpa using hk
  have d3 : (k == 3) = false := by simpa using hk3
  have d5 : (k == 5) = false := by simpa using hk5
  clear hend hd h hk hk3 hk5 h0 h1
  go_enter Tryz.func163, Tryz.ntmps163
  go_wp2_with (go_at_call 165; refine (HAT.out _ (by repeat (first | exact Tn.refl _ _ | apply Tn.drew | apply Tn.drewN | apply Tn.alloc | (refine Tn.then ?_ (by assumption)) | (refine Tn.thenNo ?_ (by assumption))))).mono ?_; rintro e w1 ⟨rfl, ht1⟩)
  go_ret
  exact HE.out _ (by repeat (first | exact Tn.refl _ _ | apply Tn.drew | apply Tn.drewN | apply Tn.alloc | (refine Tn.then ?_ (by assumption)) | (refine Tn.thenNo ?_ (by assumption))))

set_option maxHeartbeats 1000000 in
set_option maxRecDepth 100000 in
theorem write_out (p : Nat) (L : Nat → Option Lab) (N : Nat) (S : St) (fd : Int) (s : ByteArray) (w : World) (h : PW w p L N S) (h0 : -9223372036854775808 ≤ fd) (h1 : fd ≤ 9223372036854775807) (hN : N + s.size + 1 ≤ 1099511627776) (hk : (S.at fd).kind = 2 ∨ (S.at fd).kind = 3) :
    Calls Tryz.prog 163 #[.pointer (some ⟨p, 0, none⟩), .int .i64 fd, .string s] w (WritePost w p L N S fd s) := by
  have hs63 : (s.size : Int) ≤ 9223372036854775807 := by omega
  obtain ⟨k, nm, pl, hd⟩ : ∃ k nm pl, S.at fd = ⟨k, nm, pl⟩ := ⟨_, _, _, rfl⟩
  have HAT := hid (at_is p L N S fd w h h0 h1 k nm pl hd)
  have hsay : ∀ j u, Tn No w u → Calls Tryz.prog 168 #[.pointer (some ⟨p, 0, none⟩), .int .i64 j, .string ⟨#[]⟩, .string s] u fun e w' => e = .returned (.tuple #[]) ∧ Lft w p L w' (N + s.size + 1) (S.say j noName s.data.toList) := fun j u t =>
    (say_raw p L N S j noName s u (h.no t) hN).mono (fun e w' ⟨h1, h2⟩ => ⟨h1, h2.trans t.any (fun _ _ e => e)⟩)
  have HS := hid hsay
  rcases hk with hk | hk
  · have hend : ∀ u, Lft w p L u (N + s.size + 1) (S.say 1 noName s.data.toList) → WritePost w p L N S fd s (.returned (.int .i64 (s.size : Int))) u := fun u hl => by
      refine ⟨by unfold writeRes; rw [if_pos (.inl hk)], ?_⟩
      unfold St.write
      rw [if_pos hk]
      exact hl.mono (by omega)
    have HE := hid hend
    rw [hd] at hk
    have hk' : k = 2 := hk
    subst hk'
    clear hend hd h h0 h1 hsay hk hN
    go_enter Tryz.func163, Tryz.ntmps163
    go_wp2_with (first
      | (go_at_call 165; refine (HAT.out _ (by repeat (first | exact Tn.refl _ _ | apply Tn.drew | apply Tn.drewN | apply Tn.alloc | (refine Tn.then ?_ (by assumption)) | (refine Tn.thenNo ?_ (by assumption))))).mono ?_; rintro e w1 ⟨rfl, ht1⟩)
      | (go_at_call 168; refine (HS.out 1 _ (by repeat (first | exact Tn.refl _ _ | apply Tn.drew | apply Tn.drewN | apply Tn.alloc | (refine Tn.then ?_ (by assumption)) | (refine Tn.thenNo ?_ (by assumption))))).mono ?_; rintro e w2 ⟨rfl, hl2⟩))
    go_ret
    exact HE.out _ hl2
  · have hend : ∀ u, Lft w p L u (N + s.size + 1) (S.say 2 noName s.data.toList) → WritePost w p L N S fd s (.returned (.int .i64 (s.size : Int))) u := fun u hl => by
      refine ⟨by unfold writeRes; rw [if_pos (.inr (.inl hk))], ?_⟩
      unfold St.write
      rw [if_neg (by rw [hk]; omega), if_pos hk]
      exact hl.mono (by omega)
    have HE := hid hend
    rw [hd] at hk
    have hk' : k = 3 := hk
    subst hk'
    clear hend hd h h0 h1 hsay hk hN
    go_enter Tryz.func163, Tryz.ntmps163
    go_wp2_with (first
      | (go_at_call 165; refine (HAT.out _ (by repeat (first | exact Tn.refl _ _ | apply Tn.drew | apply Tn.drewN | apply Tn.alloc | (refine Tn.then ?_ (by assumption)) | (refine Tn.thenNo ?_ (by assumption))))).mono ?_; rintro e w1 ⟨rfl, ht1⟩)
      | (go_at_call 168; refine (HS.out 2 _ (by repeat (first | exact Tn.refl _ _ | apply Tn.drew | apply Tn.drewN | apply Tn.alloc | (refine Tn.then ?_ (by assumption)) | (refine Tn.thenNo ?_ (by assumption))))).mono ?_; rintro e w2 ⟨rfl, hl2⟩))
    go_ret
    exact HE.out _ hl2
end Go.Proofs.YtoidddfpekbliaaGreat
namespace Go.Proofs.YtoidddfpekbliaaGreat
set_option linter.unusedSimpArgs false
set_option linter.unusedVariables false
open Go.RowKit
attribute [local go_sem ↓] Go.wp_at_zero Go.wp_at_succ

theorem write_after (p : Nat) (L : Nat → Option Lab) (N : Nat) (S : St) (i : Nat) (nm s : ByteArray) (k : Int) (pl : Nat) (w w3 : World) (hl : Lft w p L w3 (N + s.size + 1) S) (hi : i < 19) (hds : S.ds i = ⟨k, nm, pl⟩) (hpl : pl ≤ N) (hN : N + 2 * s.size + 2 ≤ 1099511627776) :
    w3.cell? ⟨p, 3 + i * 3 + 2, none⟩ = some (.int .i64 (pl : Int)) ∧ w3.frozen? ⟨p, 3 + i * 3 + 2, none⟩ = false ∧ p < w3.heap.size ∧ Tn (fun k => L k ≠ none) w w3 ∧
      ∀ u, Tn No (w3.setCell ⟨p, 3 + i * 3 + 2, none⟩ (.int .i64 ((pl : Int) + (s.size : Int)))) u → Calls Tryz.prog 168 #[.pointer (some ⟨p, 0, none⟩), .int .i64 3, .string nm, .string s] u fun e w4 => e = .returned (.tuple #[]) ∧ Lft w p L w4 (N + 2 * s.size + 2) ((S.setDe i ⟨k, nm, pl + s.size⟩).say 3 nm s.data.toList) := by
  obtain ⟨L1, ⟨c, mo, iv, tv, vs, hx⟩, t, hll⟩ := hl
  obtain ⟨_, _, d2⟩ := hx.de i hi
  rw [hds] at d2
  refine ⟨d2, hx.sc.froz _, hx.sc.lt, t, fun u tu => ?_⟩
  have e : ((pl + s.size : Nat) : Int) = (pl : Int) + (s.size : Int) := by omega
  rw [← e] at tu
  have hpx := hx.setPl i hi (pl + s.size) (by omega)
  rw [hds] at hpx
  have := say_raw p L1 (N + s.size + 1) _ 3 nm s u ⟨_, _, _, _, _, hpx.no tu⟩ (by omega)
  refine this.mono (fun e w4 ⟨h1, h2⟩ => ⟨h1, ?_⟩)
  have h3 := h2.trans (L := L) (w := w) ((t.trans ((Tn.refl _ w3).own hx.labs (3 + i * 3 + 2) _) (fun _ _ e => e) (fun j hj e e' => e (hll j hj e'))).thenNo tu) hll
  have e2 : N + s.size + 1 + s.size + 1 = N + 2 * s.size + 2 := by omega
  rw [e2] at h3
  exact h3

theorem box_keep {L : Nat → Option Lab} {u w2 : World} (t : Tn (fun k => L k ≠ none) u w2) (b : Nat) (hb : b < u.heap.size) (hL : L b = none) (o : Nat) : w2.cell? ⟨b, o, none⟩ = u.cell? ⟨b, o, none⟩ := t.cell hb (by simp [hL])

set_option maxHeartbeats 4000000 in
set_option maxRecDepth 100000 in
theorem write_file (p : Nat) (L : Nat → Option Lab) (N : Nat) (S : St) (i : Nat) (s : ByteArray) (w : World) (h : PW w p L N S) (hi : i < 19) (hN : N + N + 2 * s.size + 2 ≤ 1099511627776) (hk : (S.ds i).kind = 5) (hfs : (S.fs (S.ds i).name.data.toList).isSome = true) :
    Calls Tryz.prog 163 #[.pointer (some ⟨p, 0, none⟩), .int .i64 (i : Int), .string s] w (WritePost w p L N S (i : Int) s) := by
  have hs63 : (s.size : Int) ≤ 1099511627776 := by omega
  have hat : S.at (i : Int) = S.ds i := by unfold St.at; rw [if_pos (by omega), Int.toNat_natCast]
  obtain ⟨k, nm, pl, hd⟩ : ∃ k nm pl, S.ds i = ⟨k, nm, pl⟩ := ⟨_, _, _, rfl⟩
  have hk' : k = 5 := by rw [hd] at hk; exact hk
  subst hk'
  have HAT := hid (at_is p L N S (i : Int) w h (by omega) (by omega) 5 nm pl (by rw [hat, hd]))
  obtain ⟨hpl, hnm⟩ : pl ≤ N ∧ nm.size ≤ 255 := by
    obtain ⟨c, mo, iv, tv, vs, hx⟩ := h
    have := hx.pl i hi
    rw [hd] at this
    exact this
  have hlp : ∀ u, Tn No w u → ∃ mo v, u.cell? ⟨p, 0, none⟩ = some (.map (some mo)) ∧ (Instr.lookup 90 (.map (some mo)) (.string nm) false).run Tryz.prog u = .ok v u ∧
      Calls Tryz.prog 169 #[v, .int .i64 (pl : Int), .string s] u fun e w2 => ∃ v', e = .returned v' ∧ Tn (fun k => L k ≠ none) u w2 ∧ w2.cell? ⟨p, 0, none⟩ = some (.map (some mo)) ∧ p < w2.heap.size ∧
        ∀ u2, Tn No w2 u2 → Calls Tryz.prog 41 #[.pointer (some ⟨p, 0, none⟩), .string nm, v'] u2 fun e w3 => e = .returned (.tuple #[]) ∧ Lft u p L w3 (N + s.size + 1) (S.layF nm pl s.data.toList) ∧ w3.cell? ⟨p, 0, none⟩ = some (.map (some mo)) :=
    fun u t => lay_put p L N S nm s pl u (h.no t) hnm hpl (by omega) (by rw [hd] at hfs; exact hfs)
  have HLP := hid hlp
  have haf : ∀ u w3, Lft u p L w3 (N + s.size + 1) (S.layF nm pl s.data.toList) → _ := fun u w3 hl => write_after p L N _ i nm s 5 pl u w3 hl hi hd hpl (by omega)
  have HAF := hid haf
  have hend : ∀ u w4, Tn No w u → Lft u p L w4 (N + 2 * s.size + 2) (((S.layF nm pl s.data.toList).setDe i ⟨5, nm, pl + s.size⟩).say 3 nm s.data.toList) → WritePost w p L N S (i : Int) s (.returned (.int .i64 (s.size : Int))) w4 := fun u w4 t hl => by
    have hk5 : (S.at (i : Int)).kind = 5 := by rw [hat]; exact hk
    refine ⟨by unfold writeRes; rw [if_pos (.inr (.inr hk5))], ?_⟩
    unfold St.write
    rw [if_neg (by rw [hk5]; omega), if_neg (by rw [hk5]; omega), if_pos hk5, hat, hd, Int.toNat_natCast]
    exact hl.trans t.any (fun _ _ e => e)
  have HE := hid hend
  have hLb : ∀ b, w.heap.size ≤ b → L b = none := fun b hb => by
    cases e : L b with
    | none => rfl
    | some x => have := h.lt b (by rw [e]; simp); omega
  have HLB := hid hLb
  have plt := h.plt
  have hi2 : (i : Int) < 19 := by omega
  have hi0 : (0 : Int) ≤ (i : Int) := by omega
  have hp63 : (pl : Int) + (s.size : Int) ≤ 9223372036854775807 := by omega
  clear hlp haf hend hat h hk hfs hd hLb hN
  go_enter Tryz.func163, Tryz.ntmps163
  go_wp2_with (go_at_call 165; refine (HAT.out _ (by repeat (first | exact Tn.refl _ _ | apply Tn.drew | apply Tn.drewN | apply Tn.alloc | (refine Tn.then ?_ (by assumption)) | (refine Tn.thenNo ?_ (by assumption))))).mono ?_; rintro e w1 ⟨rfl, ht1⟩; obtain ⟨mo, v, k0, hlk, hlay⟩ := HLP.out ((w1.alloc (.cells #[.int .i64 5, .string nm, .int .i64 (pl : Int)] 92)).drew) (by repeat (first | exact Tn.refl _ _ | apply Tn.drew | apply Tn.drewN | apply Tn.alloc | (refine Tn.then ?_ (by assumption)) | (refine Tn.thenNo ?_ (by assumption)))); have HLAY := hid hlay; have hz1 := ht1.size; have kp := (Tn.cell (o := 0) ht1 plt (fun e => e)); clear hlay)
  have hbb : (w1.alloc (.cells #[.int .i64 5, .string nm, .int .i64 (pl : Int)] 92)).heap.size = w1.heap.size + 1 := by simp
  have q1 : (w1.alloc (.cells #[.int .i64 5, .string nm, .int .i64 (pl : Int)] 92)).cell? ⟨w1.heap.size, 1, none⟩ = some (.string nm) := by rw [World.cell?_alloc_new]; rfl
  have q2 : (w1.alloc (.cells #[.int .i64 5, .string nm, .int .i64 (pl : Int)] 92)).cell? ⟨w1.heap.size, 2, none⟩ = some (.int .i64 (pl : Int)) := by rw [World.cell?_alloc_new]; rfl
  have TU : Tn No w (w1.alloc (.cells #[.int .i64 5, .string nm, .int .i64 (pl : Int)] 92)) := (by repeat (first | exact Tn.refl _ _ | apply Tn.drew | apply Tn.drewN | apply Tn.alloc | (refine Tn.then ?_ (by assumption)) | (refine Tn.thenNo ?_ (by assumption))))
  have Lb := HLB.out w1.heap.size hz1
  have HLb := hid Lb
  rw [World.cell?_drew] at k0
  generalize w1.alloc (.cells #[.int .i64 5, .string nm, .int .i64 (pl : Int)] 92) = u0 at *
  obtain ⟨b, hb⟩ : ∃ b, w1.heap.size = b := ⟨_, rfl⟩
  rw [hb] at q1 q2 HLb hbb ⊢
  have hb1 : b < u0.heap.size := by omega
  have hne1 : ¬ b = p := by omega
  have hne2 : ¬ p = b := by omega
  clear kp Lb hb hbb ht1 hz1
  go_region_held3 (fun w' => w'.cell? ⟨p, 0, none⟩ = some (.map (some mo)) ∧ w'.cell? ⟨b, 1, none⟩ = some (.string nm) ∧ w'.cell? ⟨b, 2, none⟩ = some (.int .i64 (pl : Int))) (go_keep) (first
    | (go_at_call 169; refine HLAY.out.mono ?_; rintro e w2 ⟨v', rfl, t2, k2, p2, hput⟩; have r1 := (box_keep t2 b hb1 HLb.out 1).trans q1; have r2 := (box_keep t2 b hb1 HLb.out 2).trans q2; have HPUT := hid hput; clear hput)
    | (go_at_call 41; refine (HPUT.out _ (by repeat (first | exact Tn.refl _ _ | apply Tn.drew | apply Tn.drewN | apply Tn.alloc | (refine Tn.then ?_ (by assumption)) | (refine Tn.thenNo ?_ (by assumption))))).mono ?_; rintro e w3 ⟨rfl, hl3, k3⟩; obtain ⟨d3, f3, p3, t3, hsay⟩ := HAF.out _ _ hl3; have s1 := (box_keep t3 b hb1 HLb.out 1).trans q1; have s2 := (box_keep t3 b hb1 HLb.out 2).trans q2; have HSAY := hid hsay; clear hsay))
  go_wp2_with fail
  clear q1 q2 k0 hlk HLAY HPUT HLP HAF r1 r2 k2 p2
  go_region
  all_goals go_wp2_with (go_at_call 168; refine (HSAY.out _ (by repeat (first | exact Tn.refl _ _ | apply Tn.drew | apply Tn.drewN | apply Tn.alloc | (refine Tn.then ?_ (by assumption)) | (refine Tn.thenNo ?_ (by assumption))))).mono ?_; rintro e w4 ⟨rfl, hl4⟩)
  all_goals go_ret
  all_goals exact HE.out _ w4 (by repeat (first | exact Tn.refl _ _ | apply Tn.drew | apply Tn.drewN | apply Tn.alloc | (refine Tn.then ?_ (by assumption)) | (refine Tn.thenNo ?_ (by assumption)))) hl4
end Go.Proofs.YtoidddfpekbliaaGreat
namespace Go.Proofs.YtoidddfpekbliaaGreat
set_option linter.unusedSimpArgs false
set_option linter.unusedVariables false
open Go.RowKit
attribute [local go_sem ↓] Go.wp_at_zero Go.wp_at_succ

/-- a file that is to be written is there -/
def WF (S : St) : Prop := ∀ i, i < 19 → (S.ds i).kind = 5 → (S.fs (S.ds i).name.data.toList).isSome = true

theorem write_raw (p : Nat) (L : Nat → Option Lab) (N : Nat) (S : St) (fd : Int) (s : ByteArray) (w : World) (h : PW w p L N S) (hw : WF S) (h0 : -9223372036854775808 ≤ fd) (h1 : fd ≤ 9223372036854775807) (hN : N + N + 2 * s.size + 2 ≤ 1099511627776) :
    Calls Tryz.prog 163 #[.pointer (some ⟨p, 0, none⟩), .int .i64 fd, .string s] w (WritePost w p L N S fd s) := by
  by_cases hk : (S.at fd).kind = 2 ∨ (S.at fd).kind = 3
  · exact write_out p L N S fd s w h h0 h1 (by omega) hk
  by_cases hk5 : (S.at fd).kind = 5
  · have hr : 0 ≤ fd ∧ fd < 19 := by
      rcases Classical.em (0 ≤ fd ∧ fd < 19) with h | h
      · exact h
      · exfalso; unfold St.at at hk5; rw [if_neg h] at hk5; simp [noDe] at hk5
    have ha : S.at fd = S.ds fd.toNat := by unfold St.at; rw [if_pos hr]
    obtain ⟨i, rfl⟩ : ∃ i : Nat, fd = (i : Int) := ⟨fd.toNat, by omega⟩
    rw [Int.toNat_natCast] at ha
    rw [ha] at hk5
    exact write_file p L N S i s w h (by omega) hN hk5 (hw i (by omega) hk5)
  · exact write_no p L N S fd s w h h0 h1 (fun e => hk (.inl e)) (fun e => hk (.inr e)) hk5

/-! ### SysRead -/
def readTx (S : St) (fd : Int) (n : Nat) : List UInt8 :=
  if (S.at fd).kind = 1 then nx S.inp S.rd n else if (S.at fd).kind = 4 then nx ((S.fs (S.at fd).name.data.toList).getD []) (S.at fd).place n else []
def readRes (S : St) (fd : Int) (n : Nat) : Int := if (S.at fd).kind = 1 ∨ (S.at fd).kind = 4 then (readTx S fd n).length else -9
def St.sread (S : St) (fd : Int) (n : Nat) : St :=
  if (S.at fd).kind = 1 then S.read (readTx S fd n).length else if (S.at fd).kind = 4 then S.setDe fd.toNat { S.at fd with place := (S.at fd).place + (readTx S fd n).length } else S

def ReadPost (w : World) (p : Nat) (L : Nat → Option Lab) (N : Nat) (S : St) (fd : Int) (n : Nat) (e : Ending) (w' : World) : Prop :=
  e = .returned (.tuple #[.string (str (readTx S fd n)), .int .i64 (readRes S fd n)]) ∧ Lft w p L w' N (S.sread fd n)

set_option maxHeartbeats 1000000 in
set_option maxRecDepth 100000 in
theorem read_no (p : Nat) (L : Nat → Option Lab) (N : Nat) (S : St) (fd : Int) (n : Nat) (w : World) (h : PW w p L N S) (h0 : -9223372036854775808 ≤ fd) (h1 : fd ≤ 9223372036854775807) (hk : ¬ (S.at fd).kind = 1) (hk4 : ¬ (S.at fd).kind = 4) :
    Calls Tryz.prog 162 #[.pointer (some ⟨p, 0, none⟩), .int .i64 fd, .int .u64 (n : Int)] w (ReadPost w p L N S fd n) := by
  have hend : ∀ u, Tn No w u → ReadPost w p L N S fd n (.returned (.tuple #[.string ⟨#[]⟩, .int .i64 (-9)])) u := fun u t => by
    have e1 : readTx S fd n = [] := by unfold readTx; rw [if_neg hk, if_neg hk4]
    refine ⟨by unfold readRes; rw [if_neg (by simp [hk, hk4]), e1]; rfl, ?_⟩
    unfold St.sread
    rw [if_neg hk, if_neg hk4]
    exact h.same t
  have HE := hid hend
  obtain ⟨k, nm, pl, hd⟩ : ∃ k nm pl, S.at fd = ⟨k, nm, pl⟩ := ⟨_, _, _, rfl⟩
  have HAT := hid (at_is p L N S fd w h h0 h1 k nm pl hd)
  rw [hd] at hk hk4
  have d2 : (k == 1) = false := by simpa using hk
  have d3 : (k == 4) = false := by simpa using hk4
  clear hend hd h hk hk4 h0 h1
  go_enter Tryz.func162, Tryz.ntmps162
  go_wp2_with (go_at_call 165; refine (HAT.out _ (by repeat (first | exact Tn.refl _ _ | apply Tn.drew | apply Tn.drewN | apply Tn.alloc | (refine Tn.then ?_ (by assumption)) | (refine Tn.thenNo ?_ (by assumption))))).mono ?_; rintro e w1 ⟨rfl, ht1⟩)
  go_ret2
  exact HE.out _ (by repeat (first | exact Tn.refl _ _ | apply Tn.drew | apply Tn.drewN | apply Tn.alloc | (refine Tn.then ?_ (by assumption)) | (refine Tn.thenNo ?_ (by assumption))))

set_option maxHeartbeats 1000000 in
set_option maxRecDepth 100000 in
theorem read_in (p : Nat) (L : Nat → Option Lab) (N : Nat) (S : St) (fd : Int) (n : Nat) (w : World) (h : PW w p L N S) (h0 : -9223372036854775808 ≤ fd) (h1 : fd ≤ 9223372036854775807) (hn : n ≤ 18446744073709551615) (hk : (S.at fd).kind = 1) :
    Calls Tryz.prog 162 #[.pointer (some ⟨p, 0, none⟩), .int .i64 fd, .int .u64 (n : Int)] w (ReadPost w p L N S fd n) := by
  have hrt : readTx S fd n = nx S.inp S.rd n := by unfold readTx; rw [if_pos hk]
  have hend : ∀ u, Lft w p L u N (S.read (nx S.inp S.rd n).length) → ReadPost w p L N S fd n (.returned (.tuple #[.string (str (nx S.inp S.rd n)), .int .i64 ((nx S.inp S.rd n).length : Int)])) u := fun u hl => by
    refine ⟨by unfold readRes; rw [if_pos (.inl hk), hrt], ?_⟩
    unfold St.sread
    rw [if_pos hk, hrt]
    exact hl
  have HE := hid hend
  have htk : ∀ u, Tn No w u → Calls Tryz.prog 166 #[.pointer (some ⟨p, 0, none⟩), .int .u64 (n : Int)] u fun e w' => e = .returned (.string (str (nx S.inp S.rd n))) ∧ Lft w p L w' N (S.read (nx S.inp S.rd n).length) := fun u t => by
    have := take_raw p L N S (n : Int) u (h.no t) (by omega) (by omega)
    rw [Int.toNat_natCast] at this
    exact this.mono (fun e w' ⟨h1, h2⟩ => ⟨h1, h2.trans t.any (fun _ _ e => e)⟩)
  have HTK := hid htk
  have hsz : (str (nx S.inp S.rd n)).size = (nx S.inp S.rd n).length := str_size _
  have hlen : (nx S.inp S.rd n).length ≤ 9223372036854775807 := by
    obtain ⟨c, mo, iv, tv, vs, hx⟩ := h
    obtain ⟨_, _, _, a, b, _⟩ := hx.inp.rw.form
    have : (nx S.inp S.rd n).length ≤ S.inp.length := by simp [nx]; omega
    omega
  obtain ⟨k, nm, pl, hd⟩ : ∃ k nm pl, S.at fd = ⟨k, nm, pl⟩ := ⟨_, _, _, rfl⟩
  have HAT := hid (at_is p L N S fd w h h0 h1 k nm pl hd)
  have hk' : k = 1 := by rw [hd] at hk; exact hk
  subst hk'
  obtain ⟨t, ht⟩ : ∃ t, nx S.inp S.rd n = t := ⟨_, rfl⟩
  rw [ht] at HE HTK hsz hlen
  obtain ⟨st, hst⟩ : ∃ st, str t = st := ⟨_, rfl⟩
  rw [hst] at HE HTK hsz
  clear hend hd h hk h0 h1 htk hn hrt ht hst
  go_enter Tryz.func162, Tryz.ntmps162
  go_wp2_with (first
    | (go_at_call 165; refine (HAT.out _ (by repeat (first | exact Tn.refl _ _ | apply Tn.drew | apply Tn.drewN | apply Tn.alloc | (refine Tn.then ?_ (by assumption)) | (refine Tn.thenNo ?_ (by assumption))))).mono ?_; rintro e w1 ⟨rfl, ht1⟩)
    | (go_at_call 166; refine (HTK.out _ (by repeat (first | exact Tn.refl _ _ | apply Tn.drew | apply Tn.drewN | apply Tn.alloc | (refine Tn.then ?_ (by assumption)) | (refine Tn.thenNo ?_ (by assumption))))).mono ?_; rintro e w2 ⟨rfl, hl2⟩))
  go_ret2
  exact HE.out _ hl2
end Go.Proofs.YtoidddfpekbliaaGreat
namespace Go.Proofs.YtoidddfpekbliaaGreat
set_option linter.unusedSimpArgs false
set_option linter.unusedVariables false
open Go.RowKit
attribute [local go_sem ↓] Go.wp_at_zero Go.wp_at_succ

set_option maxHeartbeats 1000000 in
set_option maxRecDepth 100000 in
theorem open_r (p : Nat) (L : Nat → Option Lab) (N : Nat) (S : St) (s : ByteArray) (w : World) (h : PW w p L N S) (h1 : s.size ≤ 255) (hh : S.has s = true) (hz : zb s.data.toList = false) (h3 : ¬ s.size = 0) (k : Nat) (hk : k < 19) (hf : S.free = some k) :
    Calls Tryz.prog 164 #[.pointer (some ⟨p, 0, none⟩), .string s, .int .i64 0] w (OpenPost w p L N S s 0) := by
  have HP := hid h
  have hres : openRes S s 0 = k := by
    unfold openRes
    rw [if_neg (by omega), if_neg (by rw [hz]; simp), if_neg (by simp [h3, hh]), hf]
  have HR := hid hres
  have he : s.toList.isEmpty = false := by rw [toList_isEmpty]; simpa using h3
  have hfr : ∀ u, Tn No w u → Calls Tryz.prog 170 #[.pointer (some ⟨p, 0, none⟩)] u fun e w' => e = .returned (.tuple #[.int .i64 (k : Int), .bool true]) ∧ Tn No u w' := fun u t =>
    (free_raw p L N S u (h.no t)).mono (fun e w' ⟨t', r⟩ => by
      rcases r with ⟨k', _, e', e2⟩ | ⟨e', _⟩
      · rw [hf] at e'; cases e'; exact ⟨e2, t'⟩
      · rw [hf] at e'; cases e')
  have HF := hid hfr
  have hcells : ∀ u, Tn No w u → u.cell? ⟨p, 3 + k * 3, none⟩ = some (.int .i64 (S.ds k).kind) ∧ u.cell? ⟨p, 3 + k * 3 + 1, none⟩ = some (.string (S.ds k).name) ∧ u.cell? ⟨p, 3 + k * 3 + 2, none⟩ = some (.int .i64 ((S.ds k).place : Int)) ∧ (∀ j, u.frozen? ⟨p, j, none⟩ = false) ∧ p < u.heap.size := fun u t => by
    obtain ⟨c, mo, iv, tv, vs, hx⟩ := HP.out
    have hu := hx.no t
    obtain ⟨a, b, c⟩ := hu.de k hk
    exact ⟨a, b, c, hu.sc.froz, hu.sc.lt⟩
  have HC := hid hcells
  have hk2 : (k : Int) < 19 := by omega
  have hz2 : ∀ u, Tn No w u → OpenPost w p L N S s 0 (.returned (.int .i64 (k : Int))) (((u.setCell ⟨p, 3 + k * 3, none⟩ (.int .i64 4)).setCell ⟨p, 3 + k * 3 + 1, none⟩ (.string s)).setCell ⟨p, 3 + k * 3 + 2, none⟩ (.int .i64 0)) := fun u t => by
    refine ⟨by rw [HR.out], ?_⟩
    unfold openSt
    rw [HR.out, if_neg (by omega), if_pos (by omega), Int.toNat_natCast]
    have e3 : ((u.setCell ⟨p, 3 + k * 3, none⟩ (.int .i64 4)).setCell ⟨p, 3 + k * 3 + 1, none⟩ (.string s)).setCell ⟨p, 3 + k * 3 + 2, none⟩ (.int .i64 0) = set3 u p k ⟨4, s, 0⟩ := by simp [set3]
    rw [e3]
    obtain ⟨c, mo, iv, tv, vs, hx⟩ := HP.out
    obtain ⟨c', hc'⟩ := (hx.no t).setDe k hk ⟨4, s, 0⟩ (Nat.zero_le _) h1
    exact Lft.mono ⟨L, ⟨_, _, _, _, _, hc'⟩, set3_tn t.any hx.labs k _, fun _ _ e => e⟩ (by omega)
  have HZ := hid hz2
  clear hz2
  clear h hres hf h3 hfr hcells
  go_enter Tryz.func164, Tryz.ntmps164
  go_wp2_with (first
    | (go_at_call 71; refine (nought_raw _ _).mono ?_; rintro e w1 ⟨rfl, rfl⟩)
    | (go_at_call 40; refine (has_raw p L N S s _ (by exact HP.out) (by unfold maxLen; omega)).mono ?_; rintro e w1 ⟨rfl, rfl⟩)
    | (go_at_call 170; refine (HF.out _ (by repeat (first | exact Tn.refl _ _ | apply Tn.drew | apply Tn.drewN | apply Tn.alloc | (refine Tn.then ?_ (by assumption)) | (refine Tn.thenNo ?_ (by assumption))))).mono ?_; rintro e w2 ⟨rfl, ht2⟩; obtain ⟨c0, c1, c2, cf, cl⟩ := HC.out w2 (by repeat (first | exact Tn.refl _ _ | apply Tn.drew | apply Tn.drewN | apply Tn.alloc | (refine Tn.then ?_ (by assumption)) | (refine Tn.thenNo ?_ (by assumption))))))
  go_ret
  exact HZ.out w2 ht2
end Go.Proofs.YtoidddfpekbliaaGreat
namespace Go.Proofs.YtoidddfpekbliaaGreat
set_option linter.unusedSimpArgs false
set_option linter.unusedVariables false
open Go.RowKit
attribute [local go_sem ↓] Go.wp_at_zero Go.wp_at_succ

set_option maxHeartbeats 1000000 in
set_option maxRecDepth 100000 in
theorem open_w (p : Nat) (L : Nat → Option Lab) (N : Nat) (S : St) (s : ByteArray) (w : World) (h : PW w p L N S) (hN : N + 2 ≤ 1099511627776) (h1 : s.size ≤ 255) (hz : zb s.data.toList = false) (h3 : ¬ s.size = 0) (k : Nat) (hk : k < 19) (hf : S.free = some k) :
    Calls Tryz.prog 164 #[.pointer (some ⟨p, 0, none⟩), .string s, .int .i64 577] w (OpenPost w p L N S s 577) := by
  have HP := hid h
  have hres : openRes S s 577 = k := by
    unfold openRes
    rw [if_neg (by omega), if_neg (by rw [hz]; simp), if_neg (by simp [h3]), hf]
  have HR := hid hres
  have he : s.toList.isEmpty = false := by rw [toList_isEmpty]; simpa using h3
  have hfr : ∀ u, Tn No w u → Calls Tryz.prog 170 #[.pointer (some ⟨p, 0, none⟩)] u fun e w' => e = .returned (.tuple #[.int .i64 (k : Int), .bool true]) ∧ Tn No u w' := fun u t =>
    (free_raw p L N S u (h.no t)).mono (fun e w' ⟨t', r⟩ => by
      rcases r with ⟨k', _, e', e2⟩ | ⟨e', _⟩
      · rw [hf] at e'; cases e'; exact ⟨e2, t'⟩
      · rw [hf] at e'; cases e')
  have HF := hid hfr
  have hcells : ∀ u, Tn No w u → u.cell? ⟨p, 3 + k * 3, none⟩ = some (.int .i64 (S.ds k).kind) ∧ u.cell? ⟨p, 3 + k * 3 + 1, none⟩ = some (.string (S.ds k).name) ∧ u.cell? ⟨p, 3 + k * 3 + 2, none⟩ = some (.int .i64 ((S.ds k).place : Int)) ∧ (∀ j, u.frozen? ⟨p, j, none⟩ = false) ∧ p < u.heap.size := fun u t => by
    obtain ⟨c, mo, iv, tv, vs, hx⟩ := HP.out
    have hu := hx.no t
    obtain ⟨a, b, c⟩ := hu.de k hk
    exact ⟨a, b, c, hu.sc.froz, hu.sc.lt⟩
  have HC := hid hcells
  have hk2 : (k : Int) < 19 := by omega
  have hput : ∀ u, Tn No w u → Calls Tryz.prog 41 #[.pointer (some ⟨p, 0, none⟩), .string s, .slice none 0 0] (set3 u p k ⟨5, s, 0⟩) fun e w' => e = .returned (.tuple #[]) ∧ Lft w p L w' (N + 1) ((S.setDe k ⟨5, s, 0⟩).put s.data.toList []) := fun u t => by
    obtain ⟨c, mo, iv, tv, vs, hx⟩ := HP.out
    obtain ⟨c', hc'⟩ := (hx.no t).setDe k hk ⟨5, s, 0⟩ (Nat.zero_le _) h1
    exact (put_raw p L N _ s (.slice none 0 0) [] _ ⟨_, _, _, _, _, hc'⟩ (by omega) (by unfold maxLen; omega) (BR.nil _) (fun g hg => by cases hg) (by simp)).mono
      (fun e w' ⟨he, hl⟩ => ⟨he, hl.trans (set3_tn t.any hx.labs k _) (fun _ _ e => e)⟩)
  have HU := hid hput
  have hev : ∀ u, Lft w p L u (N + 1) ((S.setDe k ⟨5, s, 0⟩).put s.data.toList []) → ∃ tv g' n' cap' w', u.cell? ⟨p, 60, none⟩ = some tv ∧ p < u.heap.size ∧ (Builtin.append_ #[94, 94] 94 #[tv, .slice (some ⟨u.heap.size, 0, none⟩) 1 1]).run Tryz.prog (u.alloc (.cells #[.int .i64 3, .string s, .slice none 0 0] 141)) = .ok (.slice (some ⟨g', 0, none⟩) n' cap') w' ∧
      w'.cell? ⟨p, 60, none⟩ = some tv ∧ w'.frozen? ⟨p, 60, none⟩ = false ∧ p < w'.heap.size ∧ Lft w p L (w'.setCell ⟨p, 60, none⟩ (.slice (some ⟨g', 0, none⟩) n' cap')) (N + 2) (S.openW s k) := fun u ⟨L1, ⟨c, mo, iv, tv, vs, hx⟩, t, hl⟩ => by
    obtain ⟨v', w', hr, hc, hfz, hlt, L', hpx, ht', hl'⟩ := hx.addEv (by omega) 3 s
    obtain ⟨g', cap', rfl, _⟩ := hpx.ew.rw.pos (by simp [St.addEv])
    exact ⟨tv, g', _, cap', w', (hx.sc.cell 60 (by omega)).trans (by rw [hx.c60]), hx.sc.lt, hr, hc, hfz, hlt, Lft.trans ⟨L', ⟨_, _, _, _, _, hpx⟩, ht', hl'⟩ t hl⟩
  have HE := hid hev
  have hz2 : ∀ u, Lft w p L u (N + 2) (S.openW s k) → OpenPost w p L N S s 577 (.returned (.int .i64 (k : Int))) u := fun u hl => by
    refine ⟨by rw [HR.out], ?_⟩
    unfold openSt
    rw [HR.out, if_neg (by omega), if_neg (by omega), Int.toNat_natCast]
    exact hl
  have HZ := hid hz2
  clear hz2
  clear h hres hf h3 hfr hcells hput hev
  unfold set3 at HU
  go_enter Tryz.func164, Tryz.ntmps164
  go_wp2_with (first
    | (go_at_call 71; refine (nought_raw _ _).mono ?_; rintro e w1 ⟨rfl, rfl⟩)
    | (go_at_call 170; refine (HF.out _ (by repeat (first | exact Tn.refl _ _ | apply Tn.drew | apply Tn.drewN | apply Tn.alloc | (refine Tn.then ?_ (by assumption)) | (refine Tn.thenNo ?_ (by assumption))))).mono ?_; rintro e w2 ⟨rfl, ht2⟩; obtain ⟨c0, c1, c2, cf, cl⟩ := HC.out w2 (by repeat (first | exact Tn.refl _ _ | apply Tn.drew | apply Tn.drewN | apply Tn.alloc | (refine Tn.then ?_ (by assumption)) | (refine Tn.thenNo ?_ (by assumption)))))
    | (go_at_call 41; refine (HU.out w2 (by repeat (first | exact Tn.refl _ _ | apply Tn.drew | apply Tn.drewN | apply Tn.alloc | (refine Tn.then ?_ (by assumption)) | (refine Tn.thenNo ?_ (by assumption))))).mono ?_; rintro e w3 ⟨rfl, hl3⟩; obtain ⟨tv, g', n', cap', w4, k60, pl, hr, k61, f61, pl2, hend⟩ := HE.out w3 hl3; have HAPP := hid hr; clear hr)
    | (at_builtin; refine wpList_app _ rfl _ _ _ _ rfl _ _ rfl rfl _ w4 HAPP.out ?_))
  go_ret
  exact HZ.out _ hend
end Go.Proofs.YtoidddfpekbliaaGreat
namespace Go.Proofs.YtoidddfpekbliaaGreat
set_option linter.unusedSimpArgs false
set_option linter.unusedVariables false
open Go.RowKit
attribute [local go_sem ↓] Go.wp_at_zero Go.wp_at_succ

theorem open_raw (p : Nat) (L : Nat → Option Lab) (N : Nat) (S : St) (s : ByteArray) (fl : Int) (w : World) (h : PW w p L N S) (hN : N + 2 ≤ 1099511627776) (hs : s.size ≤ maxLen) :
    Calls Tryz.prog 164 #[.pointer (some ⟨p, 0, none⟩), .string s, .int .i64 fl] w (OpenPost w p L N S s fl) := by
  by_cases h1 : 255 < s.size
  · exact open_36 p L N S s fl w h hs h1
  by_cases h2 : (fl ≠ 0 ∧ fl ≠ 577) ∨ zb s.data.toList = true
  · exact open_22 p L N S s fl w h (by omega) h2
  have hz : zb s.data.toList = false := by
    cases e : zb s.data.toList with
    | false => rfl
    | true => exact absurd (.inr e) h2
  have hfl : fl = 0 ∨ fl = 577 := by
    rcases Classical.em (fl = 0) with e | e
    · exact .inl e
    · rcases Classical.em (fl = 577) with e' | e'
      · exact .inr e'
      · exact absurd (.inl ⟨e, e'⟩) h2
  by_cases h3 : s.size = 0 ∨ (fl = 0 ∧ S.has s = false)
  · exact open_2 p L N S s fl w h (by omega) hfl hz h3
  have h0 : ¬ s.size = 0 := fun e => h3 (.inl e)
  have hh : fl = 0 → S.has s = true := fun e => by
    cases e2 : S.has s with
    | true => rfl
    | false => exact absurd (.inr ⟨e, e2⟩) h3
  cases hf : S.free with
  | none => exact open_24 p L N S s fl w h (by omega) (by rcases hfl with e | e; exact .inr ⟨e, hh e⟩; exact .inl e) hz h0 hf
  | some k =>
    have hk : k < 19 := by
      have := List.mem_of_find?_eq_some hf
      simpa using this
    rcases hfl with rfl | rfl
    · exact open_r p L N S s w h (by omega) (hh rfl) hz h0 k hk hf
    · exact open_w p L N S s w h hN (by omega) hz h0 k hk hf
end Go.Proofs.YtoidddfpekbliaaGreat
namespace Go.Proofs.YtoidddfpekbliaaGreat
set_option linter.unusedSimpArgs false
set_option linter.unusedVariables false
open Go.RowKit
attribute [local go_sem ↓] Go.wp_at_zero Go.wp_at_succ

/-! ### what stays right -/
theorem wf_de {S : St} (h : WF S) (i : Nat) (d : De) (hd : d.kind = 5 → (S.fs d.name.data.toList).isSome = true) : WF (S.setDe i d) := fun j hj hk => by
  by_cases e : j = i
  · subst e; simp only [St.setDe, upd_same] at hk ⊢; exact hd hk
  · simp only [St.setDe, upd_other _ _ e] at hk ⊢; exact h j hj hk
theorem wf_put {S : St} (h : WF S) (k l : List UInt8) : WF (S.put k l) := fun j hj hk => by
  have := h j hj hk
  simp only [St.put]
  split
  · rfl
  · exact this
theorem wf_tr {S : St} (h : WF S) (tr : List Ev) : WF { S with tr := tr } := h
theorem wf_say {S : St} (h : WF S) (k : Int) (nm : ByteArray) (t : List UInt8) : WF (S.say k nm t) := by
  unfold St.say
  split
  · exact h
  · split
    · split
      · exact h
      · exact h
    · exact h
theorem wf_open {S : St} (h : WF S) (s : ByteArray) (fl : Int) : WF (openSt S s fl) := by
  unfold openSt
  split
  · exact h
  · split
    · exact wf_de h _ _ (by intro e; simp at e)
    · unfold St.openW
      refine wf_tr ?_ _
      intro j hj hk
      by_cases e : j = (openRes S s fl).toNat
      · subst e
        simp only [St.put, St.setDe, upd_same, if_true]
        rfl
      · simp only [St.put, St.setDe, upd_other _ _ e] at hk ⊢
        split
        · rfl
        · exact h j hj hk
theorem wf_close {S : St} (h : WF S) (fd : Int) : WF (S.close fd) := by
  unfold St.close
  split
  · exact h
  · exact wf_de h _ _ (by intro e; simp [noDe] at e)
theorem wf_write {S : St} (h : WF S) (fd : Int) (s : ByteArray) : WF (S.write fd s) := by
  unfold St.write
  split
  · exact wf_say h _ _ _
  · split
    · exact wf_say h _ _ _
    · split
      · refine wf_say (wf_de (wf_put h _ _) _ _ (fun _ => ?_)) _ _ _
        simp [St.put]
      · exact h

/-! ### WriteFile -/
def St.wfile (S : St) (nm data : ByteArray) : St :=
  if openRes S nm 577 < 0 then S else ((openSt S nm 577).write (openRes S nm 577) data).close (openRes S nm 577)
def WfPost (w : World) (p : Nat) (L : Nat → Option Lab) (N : Nat) (S : St) (nm data : ByteArray) (e : Ending) (w' : World) : Prop :=
  e = .returned (.bool (decide (0 ≤ openRes S nm 577))) ∧ Lft w p L w' (N + 2 * data.size + 4) (S.wfile nm data)

theorem openRes_bd (S : St) (s : ByteArray) (fl : Int) : -36 ≤ openRes S s fl ∧ openRes S s fl < 19 := by
  unfold openRes
  split
  · omega
  · split
    · omega
    · split
      · omega
      · split
        · omega
        · rename_i k hf
          have hk : k < 19 := by
            have := List.mem_of_find?_eq_some hf
            simpa using this
          omega

/-! ### ReadFile -/
def St.rfile (S : St) (nm : ByteArray) : St := if openRes S nm 0 < 0 then S else (openSt S nm 0).close (openRes S nm 0)
def rfTx (S : St) (nm : ByteArray) : List UInt8 := if openRes S nm 0 < 0 then [] else (S.fs nm.data.toList).getD []
def RfPost (w : World) (p : Nat) (L : Nat → Option Lab) (N : Nat) (S : St) (nm : ByteArray) (e : Ending) (w' : World) : Prop :=
  e = .returned (.tuple #[.string (str (rfTx S nm)), .bool (decide (0 ≤ openRes S nm 0))]) ∧ Lft w p L w' (N + 2) (S.rfile nm)

theorem fs_close (S : St) (fd : Int) : (S.close fd).fs = S.fs := by unfold St.close; split <;> rfl
theorem fs_openR (S : St) (nm : ByteArray) : (openSt S nm 0).fs = S.fs := by
  unfold openSt
  split
  · rfl
  · rw [if_pos rfl]; rfl

end Go.Proofs.YtoidddfpekbliaaGreat
namespace Go.Proofs.YtoidddfpekbliaaGreat
set_option linter.unusedSimpArgs false
set_option linter.unusedVariables false
open Go.RowKit
attribute [local go_sem ↓] Go.wp_at_zero Go.wp_at_succ

/-- a list of events that was told -/
structure TV (w : World) (v : Value) (tr : List Ev) : Prop where
  rw : RW w 3 v tr.length
  ev : ∀ i e, tr[i]? = some e → vc w v (3 * i) = some (.int .i64 e.kind) ∧ vc w v (3 * i + 1) = some (.string e.name) ∧ vc w v (3 * i + 2) = some (.string (str e.text))
theorem TV.kept {w w' : World} {v : Value} {tr : List Ev} (h : TV w v tr) (hk : ∀ g, v.ownBlock = some g → w'.heap[g]? = w.heap[g]?) : TV w' v tr :=
  ⟨h.rw.kept hk, fun i e he => by
    obtain ⟨a, b, c⟩ := h.ev i e he
    exact ⟨(vc_kept hk _).trans a, (vc_kept hk _).trans b, (vc_kept hk _).trans c⟩⟩
theorem TV.no {w w' : World} {v : Value} {tr : List Ev} (h : TV w v tr) (t : Tn No w w') : TV w' v tr := h.kept (fun g hg => t.block g (h.rw.lt g hg) (fun e => e))

theorem wpList_str (w : World) {ops : Array Oper} {rest : List Oper} {o : Oper} {a : Act} {Q : Exit → Act → World → Prop} (hg : o.guard = none) (x : Operand) (hop : o.op = Op.convert 23 9 x) (v : Value) (l : List UInt8) (hx : a.eval x = v) (h : BR w v l)
    (hK : wpList Tryz.prog ops Q rest (a.put o.dst (.string (str l))) w) : wpList Tryz.prog ops Q (o :: rest) a w := by
  refine wpList_plain hg fun K' hK' => ?_
  have hr := br_string h
  unfold Oper.wp
  simp [execOp, hop, hx, hr, Result.andThen]
  exact hK' _ _ hK

theorem aev_info : (Tryz.prog.info? 139).map (fun i => (i.zero, i.size, i.bytes)) = some (some (.agg #[.int .i64 0, .string ⟨#[]⟩, .string ⟨#[]⟩]), 3, 40) := by kernel_rfl

/-- an event goes on the list that is told -/
theorem tv_append {w : World} {v : Value} {tr : List Ev} (h : TV w v tr) (e : Ev) (b : Nat) (hb : ∀ j u, ([.int .i64 e.kind, .string e.name, .string (str e.text)] : List Value)[j]? = some u → w.cell? ⟨b, j, none⟩ = some u) (hN : tr.length + 1 ≤ 2199023255552) :
    ∃ v' w', (Builtin.append_ #[69, 69] 69 #[v, .slice (some ⟨b, 0, none⟩) 1 1]).run Tryz.prog w = .ok v' w' ∧ TV w' v' (tr ++ [e]) ∧ w.grownBy w' v.ownBlock ∧ (v'.ownBlock = v.ownBlock ∨ v'.ownBlock = some w.heap.size) := by
  obtain ⟨i, hi, hz0, hz1, hz2⟩ := info_parts aev_info
  have hsrc : Src Tryz.prog 3 69 (.slice (some ⟨b, 0, none⟩) 1 1) 1 [.int .i64 e.kind, .string e.name, .string (str e.text)] w :=
    Src.ofSlice _ Tryz.underlying69 _ 1 1 _ rfl (fun j u hu => by rw [addr_add]; exact hb j u hu) (fun u hu => by simp at hu; rcases hu with rfl | rfl | rfl <;> rfl)
  obtain ⟨v', w', hr, hrw, hold, hnew, hgr, hown⟩ := rw_append 69 139 i _ 3 40 Tryz.underlying69 hi hz0 hz1 hz2 rfl h.rw hsrc (by unfold maxLen; omega) (by omega) (by omega)
  refine ⟨v', w', hr, ⟨by rw [List.length_append]; exact hrw, fun j e' he' => ?_⟩, hgr, hown⟩
  by_cases hj : j < tr.length
  · rw [List.getElem?_append_left hj] at he'
    obtain ⟨x, y, z⟩ := h.ev j e' he'
    exact ⟨by rw [hold _ (by omega)]; exact x, by rw [hold _ (by omega)]; exact y, by rw [hold _ (by omega)]; exact z⟩
  · have hj2 : j = tr.length := by
      have := (List.getElem?_eq_some_iff.1 he').1
      simp at this
      omega
    subst hj2
    have : e' = e := by simpa using he'.symm
    subst this
    refine ⟨?_, ?_, ?_⟩
    · rw [show 3 * tr.length = tr.length * 3 + 0 by omega, hnew 0 (by simp)]; rfl
    · rw [show 3 * tr.length + 1 = tr.length * 3 + 1 by omega, hnew 1 (by simp)]; rfl
    · rw [show 3 * tr.length + 2 = tr.length * 3 + 2 by omega, hnew 2 (by simp)]; rfl

def TracePost (w : World) (tr : List Ev) (e : Ending) (w' : World) : Prop :=
  ∃ v, e = .returned v ∧ TV w' v tr ∧ (∀ g, v.ownBlock = some g → w.heap.size ≤ g) ∧ Tn No w w'

set_option maxHeartbeats 2000000 in
set_option maxRecDepth 100000 in
theorem trace_raw (p : Nat) (L : Nat → Option Lab) (N : Nat) (S : St) (w : World) (h : PW w p L N S) (hN : N ≤ 1099511627776) :
    Calls Tryz.prog 31 #[.pointer (some ⟨p, 0, none⟩)] w (TracePost w S.tr) := by
  obtain ⟨c, mo, iv, tv, vs, hx⟩ := h
  have k60 := hx.sc.cell 60 (by omega)
  rw [hx.c60] at k60
  have plt := hx.sc.lt
  obtain ⟨a, cap, htv, hlc, hcm, hnil, hsome⟩ := hx.ew.rw.form
  have hlen := hx.ew.len
  rw [htv] at k60
  have HX := hid hx
  have HTV := hid htv
  obtain ⟨n, hn⟩ : ∃ n, S.tr.length = n := ⟨_, rfl⟩
  rw [hn] at k60 hlc hnil hlen
  have HN := hid hn
  have hn63 : n ≤ 1099511627776 := by omega
  have HSOME := hid hsome
  have HNIL := hid hnil
  clear hx htv hn hN hlen hcm hsome hnil
  go_enter Tryz.func31, Tryz.ntmps31
  go_wp2
  go_loopw [3, 13] (fun v i wr => ∃ k : Nat, k ≤ n ∧ i = .int .i64 k ∧ TV wr v (S.tr.take k) ∧ (∀ g, v.ownBlock = some g → w.heap.size ≤ g) ∧ Tn No w wr) (fun _ i _ => n - (intOf i).toNat)
  case atStart => exact ⟨0, by omega, rfl, ⟨by simpa using RW.nil w 3, fun i e he => by simp at he⟩, fun g hg => (by cases hg), (by repeat (first | exact Tn.refl _ _ | apply Tn.drew | apply Tn.drewN | apply Tn.alloc | (refine Tn.then ?_ (by assumption)) | (refine Tn.thenNo ?_ (by assumption))))⟩
  case round =>
    obtain ⟨k, hk, rfl, htv, hob, ht⟩ := hrel
    by_cases hlt : k < n
    · cases a with
      | none => have := (HNIL.out rfl).1; omega
      | some x =>
      obtain ⟨hxe, hxl⟩ := HSOME.out x rfl
      obtain ⟨g, o, sp⟩ := x
      cases hxe
      obtain ⟨e, he⟩ : ∃ e, S.tr[k]? = some e := ⟨_, List.getElem?_eq_getElem (by have := HN.out; omega)⟩
      obtain ⟨e0, e1, e2, ebr, _⟩ := HX.out.ew.ev k e he
      rw [HTV.out, Nat.mul_comm 3 k] at e0 e1 e2
      obtain ⟨av, cv, hvs, _⟩ := ebr.rw.form
      rw [hvs] at e2 ebr
      obtain ⟨nv, hnv⟩ : ∃ nv, e.text.length = nv := ⟨_, rfl⟩
      rw [hnv] at e2 ebr
      clear hvs hnv
      have q0 : wr.cell? ⟨g, k * 3, none⟩ = some (.int .i64 e.kind) := (ht.cell hxl (fun e => e)).trans e0
      have q1 : wr.cell? ⟨g, k * 3 + 1, none⟩ = some (.string e.name) := (ht.cell hxl (fun e => e)).trans e1
      have q2 : wr.cell? ⟨g, k * 3 + 2, none⟩ = some ((.slice av nv cv)) := (ht.cell hxl (fun e => e)).trans e2
      have hcv : (convert 23 9 ((.slice av nv cv))).run Tryz.prog (wr.alloc (.cells #[.int .i64 e.kind, .string e.name, (.slice av nv cv)] 141)) = .ok (.string (str e.text)) (wr.alloc (.cells #[.int .i64 e.kind, .string e.name, (.slice av nv cv)] 141)) := br_string (ebr.no (Tn.alloc ht _))
      have htk : S.tr.take (k + 1) = S.tr.take k ++ [e] := by rw [List.take_add_one, he]; rfl
      have hlk : (S.tr.take k).length = k := by have := HN.out; simp; omega
      have t1 : Tn No wr ((wr.alloc (.cells #[.int .i64 e.kind, .string e.name, (.slice av nv cv)] 141)).alloc (.cells #[.int .i64 e.kind, .string e.name, .string (str e.text)] 139)) := Tn.alloc (Tn.alloc (Tn.refl _ _) _) _
      obtain ⟨v', w', hr, htv', hgr', hown'⟩ := tv_append (htv.no t1) e (wr.heap.size + 1) (fun j u hu => by rw [World.cell?_alloc_at _ _ _ _ (by simp)]; simpa using hu) (by omega)
      have hob' : ∀ g, v'.ownBlock = some g → w.heap.size ≤ g := fun g hg => by
        rcases hown' with e | e
        · exact hob g (by rw [← e]; exact hg)
        · rw [e] at hg; cases hg; have := ht.size; have := t1.size; omega
      have ht' : Tn No w w' := (ht.then t1).grown hgr' (fun i hi hlt => by have := hob i hi; omega)
      rw [← htk] at htv'
      have HR := hid hr
      have HREL := hid (And.intro htv' (And.intro hob' ht'))
      have hgl : g < wr.heap.size := Nat.lt_of_lt_of_le hxl ht.size
      have hki : (k : Int) < (n : Int) := by omega
      clear HSOME HNIL e0 e1 e2 ebr htv he htk hlk hob hr htv' hgr' hown' hob' ht' t1
      go_wp2_with (at_builtin; refine wpList_app _ rfl _ _ _ _ rfl _ _ rfl rfl v' w' HR.out ?_)
      go_roundw
      case rel => exact ⟨k + 1, by omega, by go_num, HREL.out⟩
      case measure => simp [intOf]; omega
    · obtain rfl : k = n := by omega
      go_wp2
      go_ret
      have e : S.tr.take k = S.tr := List.take_of_length_le (by have := HN.out; omega)
      rw [e] at htv
      exact ⟨_, rfl, htv, hob, ht⟩
end Go.Proofs.YtoidddfpekbliaaGreat
namespace Go.Proofs.YtoidddfpekbliaaGreat
set_option linter.unusedSimpArgs false
set_option linter.unusedVariables false
open Go.RowKit
attribute [local go_sem ↓] Go.wp_at_zero Go.wp_at_succ

/-- a world as it begins -/
def initDs : Nat → De := fun i => if i = 0 then ⟨1, ⟨#[]⟩, 0⟩ else if i = 1 then ⟨2, ⟨#[]⟩, 0⟩ else if i = 2 then ⟨3, ⟨#[]⟩, 0⟩ else noDe
def initSt (fs : List UInt8 → Option (List UInt8)) (s : ByteArray) : St := ⟨fs, s.data.toList, 0, initDs, []⟩

/-- what New leaves -/
def NewPost (w : World) (N : Nat) (S : St) (e : Ending) (w' : World) : Prop :=
  ∃ p L, e = .returned (.pointer (some ⟨p, 0, none⟩)) ∧ PW w' p L N S ∧ Tn No w w' ∧ ∀ k, L k ≠ none → w.heap.size ≤ k

theorem wpList_bytes (w : World) {ops : Array Oper} {rest : List Oper} {o : Oper} {a : Act} {Q : Exit → Act → World → Prop} (hg : o.guard = none) (x : Operand) (hop : o.op = Op.convert 9 23 x) (s : ByteArray) (hx : a.eval x = .string s) (hs : s.size ≤ maxLen)
    (hK : ∀ g cap w', BR w' (.slice (some ⟨g, 0, none⟩) s.size cap) s.data.toList → Tn No w w' → w.heap.size ≤ g → g < w'.heap.size → wpList Tryz.prog ops Q rest (a.put o.dst (.slice (some ⟨g, 0, none⟩) s.size cap)) w') : wpList Tryz.prog ops Q (o :: rest) a w := by
  refine wpList_plain hg fun K' hK' => ?_
  have hr := Lib.run_convert_string_bytes (P := Tryz.prog) w 9 23 5 s Tryz.underlying9 Tryz.underlying23 Tryz.underlying5
  obtain ⟨hbr, t⟩ := br_new w s hs
  unfold Oper.wp
  simp [execOp, hop, hx, hr, Result.andThen]
  exact hK' _ _ (hK _ _ _ hbr t (Nat.le_refl _) (hbr.lt _ rfl))

/-- the cells of a world as it begins -/
def initCells (iv : Value) : List Value := [.map none, iv, .int .i64 0, .int .i64 1, .string ⟨#[]⟩, .int .i64 0, .int .i64 2, .string ⟨#[]⟩, .int .i64 0, .int .i64 3, .string ⟨#[]⟩, .int .i64 0, .int .i64 0, .string ⟨#[]⟩, .int .i64 0, .int .i64 0, .string ⟨#[]⟩, .int .i64 0, .int .i64 0, .string ⟨#[]⟩, .int .i64 0, .int .i64 0, .string ⟨#[]⟩, .int .i64 0, .int .i64 0, .string ⟨#[]⟩, .int .i64 0, .int .i64 0, .string ⟨#[]⟩, .int .i64 0, .int .i64 0, .string ⟨#[]⟩, .int .i64 0, .int .i64 0, .string ⟨#[]⟩, .int .i64 0, .int .i64 0, .string ⟨#[]⟩, .int .i64 0, .int .i64 0, .string ⟨#[]⟩, .int .i64 0, .int .i64 0, .string ⟨#[]⟩, .int .i64 0, .int .i64 0, .string ⟨#[]⟩, .int .i64 0, .int .i64 0, .string ⟨#[]⟩, .int .i64 0, .int .i64 0, .string ⟨#[]⟩, .int .i64 0, .int .i64 0, .string ⟨#[]⟩, .int .i64 0, .int .i64 0, .string ⟨#[]⟩, .int .i64 0, .slice none 0 0]

theorem initCells_de (iv : Value) (i : Nat) (hi : i < 19) : (initCells iv)[3 + i * 3]? = some (.int .i64 (initDs i).kind) ∧ (initCells iv)[3 + i * 3 + 1]? = some (.string (initDs i).name) ∧ (initCells iv)[3 + i * 3 + 2]? = some (.int .i64 ((initDs i).place : Int)) := by
  rcases (by omega : i = 0 ∨ i = 1 ∨ i = 2 ∨ i = 3 ∨ i = 4 ∨ i = 5 ∨ i = 6 ∨ i = 7 ∨ i = 8 ∨ i = 9 ∨ i = 10 ∨ i = 11 ∨ i = 12 ∨ i = 13 ∨ i = 14 ∨ i = 15 ∨ i = 16 ∨ i = 17 ∨ i = 18) with rfl | rfl | rfl | rfl | rfl | rfl | rfl | rfl | rfl | rfl | rfl | rfl | rfl | rfl | rfl | rfl | rfl | rfl | rfl <;> exact ⟨rfl, rfl, rfl⟩

theorem init_px {w : World} {iv : Value} {s : ByteArray} {g : Nat} (hbr : BR w iv s.data.toList) (hg : iv.ownBlock = some g) :
    PW (w.alloc (.cells (initCells iv).toArray 96)) w.heap.size (upd (upd (fun _ => none) w.heap.size (some .st)) g (some .inp)) 0 (initSt (fun _ => none) s) := by
  have hgl := hbr.lt g hg
  have t : Tn No w (w.alloc (.cells (initCells iv).toArray 96)) := (by repeat (first | exact Tn.refl _ _ | apply Tn.drew | apply Tn.drewN | apply Tn.alloc | (refine Tn.then ?_ (by assumption)) | (refine Tn.thenNo ?_ (by assumption))))
  have hcell : ∀ i, (w.alloc (.cells (initCells iv).toArray 96)).cell? ⟨w.heap.size, i, none⟩ = (initCells iv)[i]? := fun i => by rw [World.cell?_alloc_new]; simp
  have hlen : (initCells iv).length = 61 := rfl
  refine ⟨fun i => (initCells iv).getD i (.bool false), none, iv, .slice none 0 0, fun _ => .slice none 0 0, ?_⟩
  refine { sc := ⟨by simp, fun i hi => ?_, fun i => ?_⟩, c0 := rfl, c1 := rfl, c2 := rfl, c60 := rfl, cd := fun i hi => ?_, pl := fun i hi => ?_, labs := ?_, lt := fun k hk => ?_, fm := .inl ⟨rfl, fun _ => rfl⟩, inp := hbr.no t, labi := fun g' hg' => ?_, rd := Nat.zero_le _, ew := ⟨RW.nil _ _, fun g h => (by cases h), Nat.le_refl _, fun i e h => (by simp [initSt] at h)⟩ }
  · rw [hcell, List.getD_eq_getElem?_getD, List.getElem?_eq_getElem (by omega)]; rfl
  · have hh := heap_alloc_new w (.cells (initCells iv).toArray 96)
    simp only [World.frozen?, hh]
    simp
  · obtain ⟨a, b, c⟩ := initCells_de iv i hi
    simp only [List.getD_eq_getElem?_getD, a, b, c]
    exact ⟨rfl, rfl, rfl⟩
  · have : (initDs i).place = 0 ∧ (initDs i).name.size = 0 := by
      unfold initDs noDe
      split
      · exact ⟨rfl, rfl⟩
      · split
        · exact ⟨rfl, rfl⟩
        · split <;> exact ⟨rfl, rfl⟩
    simp only [initSt]
    omega
  · rw [upd_other _ _ (by omega), upd_same]
  · have hs : (w.alloc (.cells (initCells iv).toArray 96)).heap.size = w.heap.size + 1 := by simp
    rw [hs]
    by_cases e1 : k = g
    · omega
    · rw [upd_other _ _ e1] at hk
      by_cases e2 : k = w.heap.size
      · omega
      · rw [upd_other _ _ e2] at hk; exact absurd rfl hk
  · rw [hg] at hg'; cases hg'; exact upd_same _ _ _

set_option maxHeartbeats 4000000 in
set_option maxRecDepth 100000 in
theorem new_nil (s : ByteArray) (w : World) (hs : s.size ≤ maxLen) :
    Calls Tryz.prog 14 #[.agg #[.string s, .slice none 0 0]] w (NewPost w 0 (initSt (fun _ => none) s)) := by
  go_enter Tryz.func14, Tryz.ntmps14
  go_wp2_with (refine wpList_bytes _ rfl (.tmp 7) rfl s rfl hs ?_; intro g cap w1 hbr t1 hg1 hg2; obtain ⟨o1, o2⟩ := t1.old; have hz1 := t1.size; simp at hz1; have q1 : w1.cell? ⟨w.heap.size, 1, none⟩ = some (.slice none 0 0) := (by rw [o1 _ _ (by simp), World.cell?_alloc_new]; rfl); have hlt : w.heap.size < w1.heap.size := hz1; clear o1 o2)
  refine wp_loop_rounds 1 ?_
  rw [rounds_succ]
  go_wp2
  go_ret
  have hp := init_px hbr rfl
  refine ⟨w1.heap.size, _, rfl, hp, (Tn.alloc (Tn.refl _ _) _ |>.then t1).alloc _, fun k hk => ?_⟩
  by_cases e1 : k = g
  · subst e1; simp at hg1; omega
  · rw [upd_other _ _ e1] at hk
    by_cases e2 : k = w1.heap.size
    · omega
    · rw [upd_other _ _ e2] at hk; exact absurd rfl hk
end Go.Proofs.YtoidddfpekbliaaGreat
