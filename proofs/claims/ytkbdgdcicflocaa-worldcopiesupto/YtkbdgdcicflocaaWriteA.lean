/-
  SysWrite: the walk.
-/
import Derived.Test.YtkbdgdcicflocaaWrite
import Derived.Test.YtkbdgdcicflocaaSay2
namespace Go.Proofs.Ytkbdgdcicflocaa
set_option linter.unusedSimpArgs false
set_option linter.unusedVariables false
open Go.RowKit
attribute [local go_sem ↓] Go.wp_at_zero Go.wp_at_succ

def noName : ByteArray := ⟨#[]⟩
/-- what SysWrite leaves -/
def St.write (S : St) (fd : Int) (s : ByteArray) : St :=
  if (S.at fd).kind = 2 then S.say 1 noName s.data.toList else if (S.at fd).kind = 3 then S.say 2 noName s.data.toList else if (S.at fd).kind = 5 then
    ((S.layF (S.at fd).name (S.at fd).place s.data.toList).setDe fd.toNat { S.at fd with place := (S.at fd).place + s.size }).say 3 (S.at fd).name s.data.toList
  else S
def writeRes (S : St) (fd : Int) (s : ByteArray) : Int := if (S.at fd).kind = 2 ∨ (S.at fd).kind = 3 ∨ (S.at fd).kind = 5 then s.size else -9

def WritePost (w : World) (p : Nat) (L : Nat → Option Lab) (N : Nat) (S : St) (fd : Int) (s : ByteArray) (e : Ending) (w' : World) : Prop :=
  e = .returned (.int .i64 (writeRes S fd s)) ∧ Lft w p L w' (N + 2 * s.size + 2) (S.write fd s)

/-- 'at', as the walks take it -/
theorem at_is (p : Nat) (L : Nat → Option Lab) (N : Nat) (S : St) (fd : Int) (w : World) (h : PW w p L N S) (h0 : -9223372036854775808 ≤ fd) (h1 : fd ≤ 9223372036854775807) (k : Int) (nm : ByteArray) (pl : Nat) (hd : S.at fd = ⟨k, nm, pl⟩) :
    ∀ u, Tn No w u → Calls Try.prog 50 #[.pointer (some ⟨p, 0, none⟩), .int .i64 fd] u fun e w' => e = .returned (.agg #[.int .i64 k, .string nm, .int .i64 (pl : Int)]) ∧ Tn No u w' := fun u t => by
  have := at_raw p L N S fd u (h.no t) h0 h1
  rw [hd] at this
  exact this

set_option maxHeartbeats 1000000 in
set_option maxRecDepth 100000 in
theorem write_no (p : Nat) (L : Nat → Option Lab) (N : Nat) (S : St) (fd : Int) (s : ByteArray) (w : World) (h : PW w p L N S) (h0 : -9223372036854775808 ≤ fd) (h1 : fd ≤ 9223372036854775807) (hk : ¬ (S.at fd).kind = 2) (hk3 : ¬ (S.at fd).kind = 3) (hk5 : ¬ (S.at fd).kind = 5) :
    Calls Try.prog 18 #[.pointer (some ⟨p, 0, none⟩), .int .i64 fd, .string s] w (WritePost w p L N S fd s) := by
  have hend : ∀ u, Tn No w u → WritePost w p L N S fd s (.returned (.int .i64 (-9))) u := fun u t => by
    refine ⟨by unfold writeRes; rw [if_neg (by simp [hk, hk3, hk5])], ?_⟩
    unfold St.write
    rw [if_neg hk, if_neg hk3, if_neg hk5]
    exact (h.same t).mono (by omega)
  have HE := hid hend
  obtain ⟨k, nm, pl, hd⟩ : ∃ k nm pl, S.at fd = ⟨k, nm, pl⟩ := ⟨_, _, _, rfl⟩
  have HAT := hid (at_is p L N S fd w h h0 h1 k nm pl hd)
  rw [hd] at hk hk3 hk5
  have d2 : (k == 2) = false := by simpa using hk
  have d3 : (k == 3) = false := by simpa using hk3
  have d5 : (k == 5) = false := by simpa using hk5
  clear hend hd h hk hk3 hk5 h0 h1
  go_enter Try.func18, Try.ntmps18
  go_wp2_with (go_at_call 50; refine (HAT.out _ (by repeat (first | exact Tn.refl _ _ | apply Tn.drew | apply Tn.drewN | apply Tn.alloc | (refine Tn.then ?_ (by assumption)) | (refine Tn.thenNo ?_ (by assumption))))).mono ?_; rintro e w1 ⟨rfl, ht1⟩)
  go_ret
  exact HE.out _ (by repeat (first | exact Tn.refl _ _ | apply Tn.drew | apply Tn.drewN | apply Tn.alloc | (refine Tn.then ?_ (by assumption)) | (refine Tn.thenNo ?_ (by assumption))))

set_option maxHeartbeats 1000000 in
set_option maxRecDepth 100000 in
theorem write_out (p : Nat) (L : Nat → Option Lab) (N : Nat) (S : St) (fd : Int) (s : ByteArray) (w : World) (h : PW w p L N S) (h0 : -9223372036854775808 ≤ fd) (h1 : fd ≤ 9223372036854775807) (hN : N + s.size + 1 ≤ 1099511627776) (hk : (S.at fd).kind = 2 ∨ (S.at fd).kind = 3) :
    Calls Try.prog 18 #[.pointer (some ⟨p, 0, none⟩), .int .i64 fd, .string s] w (WritePost w p L N S fd s) := by
  have hs63 : (s.size : Int) ≤ 9223372036854775807 := by omega
  obtain ⟨k, nm, pl, hd⟩ : ∃ k nm pl, S.at fd = ⟨k, nm, pl⟩ := ⟨_, _, _, rfl⟩
  have HAT := hid (at_is p L N S fd w h h0 h1 k nm pl hd)
  have hsay : ∀ j u, Tn No w u → Calls Try.prog 51 #[.pointer (some ⟨p, 0, none⟩), .int .i64 j, .string ⟨#[]⟩, .string s] u fun e w' => e = .returned (.tuple #[]) ∧ Lft w p L w' (N + s.size + 1) (S.say j noName s.data.toList) := fun j u t =>
    (say_raw p L N S j noName s u (h.no t) hN).mono (fun e w' ⟨h1, h2⟩ => ⟨h1, h2.trans t.any (fun _ _ e => e)⟩)
  have HS := hid hsay
  rcases hk with hk | hk
  · have hend : ∀ u, Lft w p L u (N + s.size + 1) (S.say 1 noName s.data.toList) → WritePost w p L N S fd s (.returned (.int .i64 (s.size : Int))) u := fun u hl => by
      refine ⟨by unfold writeRes; rw [if_pos (.inl hk)], ?_⟩
      unfold St.write
      rw [if_pos hk]
      exact hl.mono (by omega)
    have HE := hid hend
    rw [hd] at hk
    have hk' : k = 2 := hk
    subst hk'
    clear hend hd h h0 h1 hsay hk hN
    go_enter Try.func18, Try.ntmps18
    go_wp2_with (first
      | (go_at_call 50; refine (HAT.out _ (by repeat (first | exact Tn.refl _ _ | apply Tn.drew | apply Tn.drewN | apply Tn.alloc | (refine Tn.then ?_ (by assumption)) | (refine Tn.thenNo ?_ (by assumption))))).mono ?_; rintro e w1 ⟨rfl, ht1⟩)
      | (go_at_call 51; refine (HS.out 1 _ (by repeat (first | exact Tn.refl _ _ | apply Tn.drew | apply Tn.drewN | apply Tn.alloc | (refine Tn.then ?_ (by assumption)) | (refine Tn.thenNo ?_ (by assumption))))).mono ?_; rintro e w2 ⟨rfl, hl2⟩))
    go_ret
    exact HE.out _ hl2
  · have hend : ∀ u, Lft w p L u (N + s.size + 1) (S.say 2 noName s.data.toList) → WritePost w p L N S fd s (.returned (.int .i64 (s.size : Int))) u := fun u hl => by
      refine ⟨by unfold writeRes; rw [if_pos (.inr (.inl hk))], ?_⟩
      unfold St.write
      rw [if_neg (by rw [hk]; omega), if_pos hk]
      exact hl.mono (by omega)
    have HE := hid hend
    rw [hd] at hk
    have hk' : k = 3 := hk
    subst hk'
    clear hend hd h h0 h1 hsay hk hN
    go_enter Try.func18, Try.ntmps18
    go_wp2_with (first
      | (go_at_call 50; refine (HAT.out _ (by repeat (first | exact Tn.refl _ _ | apply Tn.drew | apply Tn.drewN | apply Tn.alloc | (refine Tn.then ?_ (by assumption)) | (refine Tn.thenNo ?_ (by assumption))))).mono ?_; rintro e w1 ⟨rfl, ht1⟩)
      | (go_at_call 51; refine (HS.out 2 _ (by repeat (first | exact Tn.refl _ _ | apply Tn.drew | apply Tn.drewN | apply Tn.alloc | (refine Tn.then ?_ (by assumption)) | (refine Tn.thenNo ?_ (by assumption))))).mono ?_; rintro e w2 ⟨rfl, hl2⟩))
    go_ret
    exact HE.out _ hl2
end Go.Proofs.Ytkbdgdcicflocaa
namespace Go.Proofs.Ytkbdgdcicflocaa
set_option linter.unusedSimpArgs false
set_option linter.unusedVariables false
open Go.RowKit
attribute [local go_sem ↓] Go.wp_at_zero Go.wp_at_succ

theorem write_after (p : Nat) (L : Nat → Option Lab) (N : Nat) (S : St) (i : Nat) (nm s : ByteArray) (k : Int) (pl : Nat) (w w3 : World) (hl : Lft w p L w3 (N + s.size + 1) S) (hi : i < 19) (hds : S.ds i = ⟨k, nm, pl⟩) (hpl : pl ≤ N) (hN : N + 2 * s.size + 2 ≤ 1099511627776) :
    w3.cell? ⟨p, 3 + i * 3 + 2, none⟩ = some (.int .i64 (pl : Int)) ∧ w3.frozen? ⟨p, 3 + i * 3 + 2, none⟩ = false ∧ p < w3.heap.size ∧ Tn (fun k => L k ≠ none) w w3 ∧
      ∀ u, Tn No (w3.setCell ⟨p, 3 + i * 3 + 2, none⟩ (.int .i64 ((pl : Int) + (s.size : Int)))) u → Calls Try.prog 51 #[.pointer (some ⟨p, 0, none⟩), .int .i64 3, .string nm, .string s] u fun e w4 => e = .returned (.tuple #[]) ∧ Lft w p L w4 (N + 2 * s.size + 2) ((S.setDe i ⟨k, nm, pl + s.size⟩).say 3 nm s.data.toList) := by
  obtain ⟨L1, ⟨c, mo, iv, tv, vs, hx⟩, t, hll⟩ := hl
  obtain ⟨_, _, d2⟩ := hx.de i hi
  rw [hds] at d2
  refine ⟨d2, hx.sc.froz _, hx.sc.lt, t, fun u tu => ?_⟩
  have e : ((pl + s.size : Nat) : Int) = (pl : Int) + (s.size : Int) := by omega
  rw [← e] at tu
  have hpx := hx.setPl i hi (pl + s.size) (by omega)
  rw [hds] at hpx
  have := say_raw p L1 (N + s.size + 1) _ 3 nm s u ⟨_, _, _, _, _, hpx.no tu⟩ (by omega)
  refine this.mono (fun e w4 ⟨h1, h2⟩ => ⟨h1, ?_⟩)
  have h3 := h2.trans (L := L) (w := w) ((t.trans ((Tn.refl _ w3).own hx.labs (3 + i * 3 + 2) _) (fun _ _ e => e) (fun j hj e e' => e (hll j hj e'))).thenNo tu) hll
  have e2 : N + s.size + 1 + s.size + 1 = N + 2 * s.size + 2 := by omega
  rw [e2] at h3
  exact h3

theorem box_keep {L : Nat → Option Lab} {u w2 : World} (t : Tn (fun k => L k ≠ none) u w2) (b : Nat) (hb : b < u.heap.size) (hL : L b = none) (o : Nat) : w2.cell? ⟨b, o, none⟩ = u.cell? ⟨b, o, none⟩ := t.cell hb (by simp [hL])

set_option maxHeartbeats 4000000 in
set_option maxRecDepth 100000 in
theorem write_file (p : Nat) (L : Nat → Option Lab) (N : Nat) (S : St) (i : Nat) (s : ByteArray) (w : World) (h : PW w p L N S) (hi : i < 19) (hN : N + N + 2 * s.size + 2 ≤ 1099511627776) (hk : (S.ds i).kind = 5) (hfs : (S.fs (S.ds i).name.data.toList).isSome = true) :
    Calls Try.prog 18 #[.pointer (some ⟨p, 0, none⟩), .int .i64 (i : Int), .string s] w (WritePost w p L N S (i : Int) s) := by
  have hs63 : (s.size : Int) ≤ 1099511627776 := by omega
  have hat : S.at (i : Int) = S.ds i := by unfold St.at; rw [if_pos (by omega), Int.toNat_natCast]
  obtain ⟨k, nm, pl, hd⟩ : ∃ k nm pl, S.ds i = ⟨k, nm, pl⟩ := ⟨_, _, _, rfl⟩
  have hk' : k = 5 := by rw [hd] at hk; exact hk
  subst hk'
  have HAT := hid (at_is p L N S (i : Int) w h (by omega) (by omega) 5 nm pl (by rw [hat, hd]))
  obtain ⟨hpl, hnm⟩ : pl ≤ N ∧ nm.size ≤ 255 := by
    obtain ⟨c, mo, iv, tv, vs, hx⟩ := h
    have := hx.pl i hi
    rw [hd] at this
    exact this
  have hlp : ∀ u, Tn No w u → ∃ mo v, u.cell? ⟨p, 0, none⟩ = some (.map (some mo)) ∧ (Instr.lookup 65 (.map (some mo)) (.string nm) false).run Try.prog u = .ok v u ∧
      Calls Try.prog 52 #[v, .int .i64 (pl : Int), .string s] u fun e w2 => ∃ v', e = .returned v' ∧ Tn (fun k => L k ≠ none) u w2 ∧ w2.cell? ⟨p, 0, none⟩ = some (.map (some mo)) ∧ p < w2.heap.size ∧
        ∀ u2, Tn No w2 u2 → Calls Try.prog 28 #[.pointer (some ⟨p, 0, none⟩), .string nm, v'] u2 fun e w3 => e = .returned (.tuple #[]) ∧ Lft u p L w3 (N + s.size + 1) (S.layF nm pl s.data.toList) ∧ w3.cell? ⟨p, 0, none⟩ = some (.map (some mo)) :=
    fun u t => lay_put p L N S nm s pl u (h.no t) hnm hpl (by omega) (by rw [hd] at hfs; exact hfs)
  have HLP := hid hlp
  have haf : ∀ u w3, Lft u p L w3 (N + s.size + 1) (S.layF nm pl s.data.toList) → _ := fun u w3 hl => write_after p L N _ i nm s 5 pl u w3 hl hi hd hpl (by omega)
  have HAF := hid haf
  have hend : ∀ u w4, Tn No w u → Lft u p L w4 (N + 2 * s.size + 2) (((S.layF nm pl s.data.toList).setDe i ⟨5, nm, pl + s.size⟩).say 3 nm s.data.toList) → WritePost w p L N S (i : Int) s (.returned (.int .i64 (s.size : Int))) w4 := fun u w4 t hl => by
    have hk5 : (S.at (i : Int)).kind = 5 := by rw [hat]; exact hk
    refine ⟨by unfold writeRes; rw [if_pos (.inr (.inr hk5))], ?_⟩
    unfold St.write
    rw [if_neg (by rw [hk5]; omega), if_neg (by rw [hk5]; omega), if_pos hk5, hat, hd, Int.toNat_natCast]
    exact hl.trans t.any (fun _ _ e => e)
  have HE := hid hend
  have hLb : ∀ b, w.heap.size ≤ b → L b = none := fun b hb => by
    cases e : L b with
    | none => rfl
    | some x => have := h.lt b (by rw [e]; simp); omega
  have HLB := hid hLb
  have plt := h.plt
  have hi2 : (i : Int) < 19 := by omega
  have hi0 : (0 : Int) ≤ (i : Int) := by omega
  have hp63 : (pl : Int) + (s.size : Int) ≤ 9223372036854775807 := by omega
  clear hlp haf hend hat h hk hfs hd hLb hN
  go_enter Try.func18, Try.ntmps18
  go_wp2_with (go_at_call 50; refine (HAT.out _ (by repeat (first | exact Tn.refl _ _ | apply Tn.drew | apply Tn.drewN | apply Tn.alloc | (refine Tn.then ?_ (by assumption)) | (refine Tn.thenNo ?_ (by assumption))))).mono ?_; rintro e w1 ⟨rfl, ht1⟩; obtain ⟨mo, v, k0, hlk, hlay⟩ := HLP.out ((w1.alloc (.cells #[.int .i64 5, .string nm, .int .i64 (pl : Int)] 67)).drew) (by repeat (first | exact Tn.refl _ _ | apply Tn.drew | apply Tn.drewN | apply Tn.alloc | (refine Tn.then ?_ (by assumption)) | (refine Tn.thenNo ?_ (by assumption)))); have HLAY := hid hlay; have hz1 := ht1.size; have kp := (Tn.cell (o := 0) ht1 plt (fun e => e)); clear hlay)
  have hbb : (w1.alloc (.cells #[.int .i64 5, .string nm, .int .i64 (pl : Int)] 67)).heap.size = w1.heap.size + 1 := by simp
  have q1 : (w1.alloc (.cells #[.int .i64 5, .string nm, .int .i64 (pl : Int)] 67)).cell? ⟨w1.heap.size, 1, none⟩ = some (.string nm) := by rw [World.cell?_alloc_new]; rfl
  have q2 : (w1.alloc (.cells #[.int .i64 5, .string nm, .int .i64 (pl : Int)] 67)).cell? ⟨w1.heap.size, 2, none⟩ = some (.int .i64 (pl : Int)) := by rw [World.cell?_alloc_new]; rfl
  have TU : Tn No w (w1.alloc (.cells #[.int .i64 5, .string nm, .int .i64 (pl : Int)] 67)) := (by repeat (first | exact Tn.refl _ _ | apply Tn.drew | apply Tn.drewN | apply Tn.alloc | (refine Tn.then ?_ (by assumption)) | (refine Tn.thenNo ?_ (by assumption))))
  have Lb := HLB.out w1.heap.size hz1
  have HLb := hid Lb
  rw [World.cell?_drew] at k0
  generalize w1.alloc (.cells #[.int .i64 5, .string nm, .int .i64 (pl : Int)] 67) = u0 at *
  obtain ⟨b, hb⟩ : ∃ b, w1.heap.size = b := ⟨_, rfl⟩
  rw [hb] at q1 q2 HLb hbb ⊢
  have hb1 : b < u0.heap.size := by omega
  have hne1 : ¬ b = p := by omega
  have hne2 : ¬ p = b := by omega
  clear kp Lb hb hbb ht1 hz1
  go_region_held3 (fun w' => w'.cell? ⟨p, 0, none⟩ = some (.map (some mo)) ∧ w'.cell? ⟨b, 1, none⟩ = some (.string nm) ∧ w'.cell? ⟨b, 2, none⟩ = some (.int .i64 (pl : Int))) (go_keep) (first
    | (go_at_call 52; refine HLAY.out.mono ?_; rintro e w2 ⟨v', rfl, t2, k2, p2, hput⟩; have r1 := (box_keep t2 b hb1 HLb.out 1).trans q1; have r2 := (box_keep t2 b hb1 HLb.out 2).trans q2; have HPUT := hid hput; clear hput)
    | (go_at_call 28; refine (HPUT.out _ (by repeat (first | exact Tn.refl _ _ | apply Tn.drew | apply Tn.drewN | apply Tn.alloc | (refine Tn.then ?_ (by assumption)) | (refine Tn.thenNo ?_ (by assumption))))).mono ?_; rintro e w3 ⟨rfl, hl3, k3⟩; obtain ⟨d3, f3, p3, t3, hsay⟩ := HAF.out _ _ hl3; have s1 := (box_keep t3 b hb1 HLb.out 1).trans q1; have s2 := (box_keep t3 b hb1 HLb.out 2).trans q2; have HSAY := hid hsay; clear hsay))
  go_wp2_with fail
  clear q1 q2 k0 hlk HLAY HPUT HLP HAF r1 r2 k2 p2
  go_region
  all_goals go_wp2_with (go_at_call 51; refine (HSAY.out _ (by repeat (first | exact Tn.refl _ _ | apply Tn.drew | apply Tn.drewN | apply Tn.alloc | (refine Tn.then ?_ (by assumption)) | (refine Tn.thenNo ?_ (by assumption))))).mono ?_; rintro e w4 ⟨rfl, hl4⟩)
  all_goals go_ret
  all_goals exact HE.out _ w4 (by repeat (first | exact Tn.refl _ _ | apply Tn.drew | apply Tn.drewN | apply Tn.alloc | (refine Tn.then ?_ (by assumption)) | (refine Tn.thenNo ?_ (by assumption)))) hl4
end Go.Proofs.Ytkbdgdcicflocaa
namespace Go.Proofs.Ytkbdgdcicflocaa
set_option linter.unusedSimpArgs false
set_option linter.unusedVariables false
open Go.RowKit
attribute [local go_sem ↓] Go.wp_at_zero Go.wp_at_succ

/-- a file that is to be written is there -/
def WF (S : St) : Prop := ∀ i, i < 19 → (S.ds i).kind = 5 → (S.fs (S.ds i).name.data.toList).isSome = true

theorem write_raw (p : Nat) (L : Nat → Option Lab) (N : Nat) (S : St) (fd : Int) (s : ByteArray) (w : World) (h : PW w p L N S) (hw : WF S) (h0 : -9223372036854775808 ≤ fd) (h1 : fd ≤ 9223372036854775807) (hN : N + N + 2 * s.size + 2 ≤ 1099511627776) :
    Calls Try.prog 18 #[.pointer (some ⟨p, 0, none⟩), .int .i64 fd, .string s] w (WritePost w p L N S fd s) := by
  by_cases hk : (S.at fd).kind = 2 ∨ (S.at fd).kind = 3
  · exact write_out p L N S fd s w h h0 h1 (by omega) hk
  by_cases hk5 : (S.at fd).kind = 5
  · have hr : 0 ≤ fd ∧ fd < 19 := by
      rcases Classical.em (0 ≤ fd ∧ fd < 19) with h | h
      · exact h
      · exfalso; unfold St.at at hk5; rw [if_neg h] at hk5; simp [noDe] at hk5
    have ha : S.at fd = S.ds fd.toNat := by unfold St.at; rw [if_pos hr]
    obtain ⟨i, rfl⟩ : ∃ i : Nat, fd = (i : Int) := ⟨fd.toNat, by omega⟩
    rw [Int.toNat_natCast] at ha
    rw [ha] at hk5
    exact write_file p L N S i s w h (by omega) hN hk5 (hw i (by omega) hk5)
  · exact write_no p L N S fd s w h h0 h1 (fun e => hk (.inl e)) (fun e => hk (.inr e)) hk5

/-! ### SysRead -/
def readTx (S : St) (fd : Int) (n : Nat) : List UInt8 :=
  if (S.at fd).kind = 1 then nx S.inp S.rd n else if (S.at fd).kind = 4 then nx ((S.fs (S.at fd).name.data.toList).getD []) (S.at fd).place n else []
def readRes (S : St) (fd : Int) (n : Nat) : Int := if (S.at fd).kind = 1 ∨ (S.at fd).kind = 4 then (readTx S fd n).length else -9
def St.sread (S : St) (fd : Int) (n : Nat) : St :=
  if (S.at fd).kind = 1 then S.read (readTx S fd n).length else if (S.at fd).kind = 4 then S.setDe fd.toNat { S.at fd with place := (S.at fd).place + (readTx S fd n).length } else S

def ReadPost (w : World) (p : Nat) (L : Nat → Option Lab) (N : Nat) (S : St) (fd : Int) (n : Nat) (e : Ending) (w' : World) : Prop :=
  e = .returned (.tuple #[.string (str (readTx S fd n)), .int .i64 (readRes S fd n)]) ∧ Lft w p L w' N (S.sread fd n)

set_option maxHeartbeats 1000000 in
set_option maxRecDepth 100000 in
theorem read_no (p : Nat) (L : Nat → Option Lab) (N : Nat) (S : St) (fd : Int) (n : Nat) (w : World) (h : PW w p L N S) (h0 : -9223372036854775808 ≤ fd) (h1 : fd ≤ 9223372036854775807) (hk : ¬ (S.at fd).kind = 1) (hk4 : ¬ (S.at fd).kind = 4) :
    Calls Try.prog 24 #[.pointer (some ⟨p, 0, none⟩), .int .i64 fd, .int .u64 (n : Int)] w (ReadPost w p L N S fd n) := by
  have hend : ∀ u, Tn No w u → ReadPost w p L N S fd n (.returned (.tuple #[.string ⟨#[]⟩, .int .i64 (-9)])) u := fun u t => by
    have e1 : readTx S fd n = [] := by unfold readTx; rw [if_neg hk, if_neg hk4]
    refine ⟨by unfold readRes; rw [if_neg (by simp [hk, hk4]), e1]; rfl, ?_⟩
    unfold St.sread
    rw [if_neg hk, if_neg hk4]
    exact h.same t
  have HE := hid hend
  obtain ⟨k, nm, pl, hd⟩ : ∃ k nm pl, S.at fd = ⟨k, nm, pl⟩ := ⟨_, _, _, rfl⟩
  have HAT := hid (at_is p L N S fd w h h0 h1 k nm pl hd)
  rw [hd] at hk hk4
  have d2 : (k == 1) = false := by simpa using hk
  have d3 : (k == 4) = false := by simpa using hk4
  clear hend hd h hk hk4 h0 h1
  go_enter Try.func24, Try.ntmps24
  go_wp2_with (go_at_call 50; refine (HAT.out _ (by repeat (first | exact Tn.refl _ _ | apply Tn.drew | apply Tn.drewN | apply Tn.alloc | (refine Tn.then ?_ (by assumption)) | (refine Tn.thenNo ?_ (by assumption))))).mono ?_; rintro e w1 ⟨rfl, ht1⟩)
  go_ret2
  exact HE.out _ (by repeat (first | exact Tn.refl _ _ | apply Tn.drew | apply Tn.drewN | apply Tn.alloc | (refine Tn.then ?_ (by assumption)) | (refine Tn.thenNo ?_ (by assumption))))

set_option maxHeartbeats 1000000 in
set_option maxRecDepth 100000 in
theorem read_in (p : Nat) (L : Nat → Option Lab) (N : Nat) (S : St) (fd : Int) (n : Nat) (w : World) (h : PW w p L N S) (h0 : -9223372036854775808 ≤ fd) (h1 : fd ≤ 9223372036854775807) (hn : n ≤ 18446744073709551615) (hk : (S.at fd).kind = 1) :
    Calls Try.prog 24 #[.pointer (some ⟨p, 0, none⟩), .int .i64 fd, .int .u64 (n : Int)] w (ReadPost w p L N S fd n) := by
  have hrt : readTx S fd n = nx S.inp S.rd n := by unfold readTx; rw [if_pos hk]
  have hend : ∀ u, Lft w p L u N (S.read (nx S.inp S.rd n).length) → ReadPost w p L N S fd n (.returned (.tuple #[.string (str (nx S.inp S.rd n)), .int .i64 ((nx S.inp S.rd n).length : Int)])) u := fun u hl => by
    refine ⟨by unfold readRes; rw [if_pos (.inl hk), hrt], ?_⟩
    unfold St.sread
    rw [if_pos hk, hrt]
    exact hl
  have HE := hid hend
  have htk : ∀ u, Tn No w u → Calls Try.prog 55 #[.pointer (some ⟨p, 0, none⟩), .int .u64 (n : Int)] u fun e w' => e = .returned (.string (str (nx S.inp S.rd n))) ∧ Lft w p L w' N (S.read (nx S.inp S.rd n).length) := fun u t => by
    have := take_raw p L N S (n : Int) u (h.no t) (by omega) (by omega)
    rw [Int.toNat_natCast] at this
    exact this.mono (fun e w' ⟨h1, h2⟩ => ⟨h1, h2.trans t.any (fun _ _ e => e)⟩)
  have HTK := hid htk
  have hsz : (str (nx S.inp S.rd n)).size = (nx S.inp S.rd n).length := str_size _
  have hlen : (nx S.inp S.rd n).length ≤ 9223372036854775807 := by
    obtain ⟨c, mo, iv, tv, vs, hx⟩ := h
    obtain ⟨_, _, _, a, b, _⟩ := hx.inp.rw.form
    have : (nx S.inp S.rd n).length ≤ S.inp.length := by simp [nx]; omega
    omega
  obtain ⟨k, nm, pl, hd⟩ : ∃ k nm pl, S.at fd = ⟨k, nm, pl⟩ := ⟨_, _, _, rfl⟩
  have HAT := hid (at_is p L N S fd w h h0 h1 k nm pl hd)
  have hk' : k = 1 := by rw [hd] at hk; exact hk
  subst hk'
  obtain ⟨t, ht⟩ : ∃ t, nx S.inp S.rd n = t := ⟨_, rfl⟩
  rw [ht] at HE HTK hsz hlen
  obtain ⟨st, hst⟩ : ∃ st, str t = st := ⟨_, rfl⟩
  rw [hst] at HE HTK hsz
  clear hend hd h hk h0 h1 htk hn hrt ht hst
  go_enter Try.func24, Try.ntmps24
  go_wp2_with (first
    | (go_at_call 50; refine (HAT.out _ (by repeat (first | exact Tn.refl _ _ | apply Tn.drew | apply Tn.drewN | apply Tn.alloc | (refine Tn.then ?_ (by assumption)) | (refine Tn.thenNo ?_ (by assumption))))).mono ?_; rintro e w1 ⟨rfl, ht1⟩)
    | (go_at_call 55; refine (HTK.out _ (by repeat (first | exact Tn.refl _ _ | apply Tn.drew | apply Tn.drewN | apply Tn.alloc | (refine Tn.then ?_ (by assumption)) | (refine Tn.thenNo ?_ (by assumption))))).mono ?_; rintro e w2 ⟨rfl, hl2⟩))
  go_ret2
  exact HE.out _ hl2
end Go.Proofs.Ytkbdgdcicflocaa
