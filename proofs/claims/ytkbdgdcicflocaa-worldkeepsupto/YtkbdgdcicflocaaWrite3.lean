/-
  SysWrite into a file.
-/
import Derived.Test.YtkbdgdcicflocaaWrite2
namespace Go.Proofs.Ytkbdgdcicflocaa
set_option linter.unusedSimpArgs false
set_option linter.unusedVariables false
open Go.RowKit
attribute [local go_sem ↓] Go.wp_at_zero Go.wp_at_succ

theorem write_after (p : Nat) (L : Nat → Option Lab) (N : Nat) (S : St) (i : Nat) (nm s : ByteArray) (k : Int) (pl : Nat) (w w3 : World) (hl : Lft w p L w3 (N + s.size + 1) S) (hi : i < 19) (hds : S.ds i = ⟨k, nm, pl⟩) (hpl : pl ≤ N) (hN : N + 2 * s.size + 2 ≤ 1099511627776) :
    w3.cell? ⟨p, 3 + i * 3 + 2, none⟩ = some (.int .i64 (pl : Int)) ∧ w3.frozen? ⟨p, 3 + i * 3 + 2, none⟩ = false ∧ p < w3.heap.size ∧ Tn (fun k => L k ≠ none) w w3 ∧
      ∀ u, Tn No (w3.setCell ⟨p, 3 + i * 3 + 2, none⟩ (.int .i64 ((pl : Int) + (s.size : Int)))) u → Calls Try.prog 51 #[.pointer (some ⟨p, 0, none⟩), .int .i64 3, .string nm, .string s] u fun e w4 => e = .returned (.tuple #[]) ∧ Lft w p L w4 (N + 2 * s.size + 2) ((S.setDe i ⟨k, nm, pl + s.size⟩).say 3 nm s.data.toList) := by
  obtain ⟨L1, ⟨c, mo, iv, tv, vs, hx⟩, t, hll⟩ := hl
  obtain ⟨_, _, d2⟩ := hx.de i hi
  rw [hds] at d2
  refine ⟨d2, hx.sc.froz _, hx.sc.lt, t, fun u tu => ?_⟩
  have e : ((pl + s.size : Nat) : Int) = (pl : Int) + (s.size : Int) := by omega
  rw [← e] at tu
  have hpx := hx.setPl i hi (pl + s.size) (by omega)
  rw [hds] at hpx
  have := say_raw p L1 (N + s.size + 1) _ 3 nm s u ⟨_, _, _, _, _, hpx.no tu⟩ (by omega)
  refine this.mono (fun e w4 ⟨h1, h2⟩ => ⟨h1, ?_⟩)
  have h3 := h2.trans (L := L) (w := w) ((t.trans ((Tn.refl _ w3).own hx.labs (3 + i * 3 + 2) _) (fun _ _ e => e) (fun j hj e e' => e (hll j hj e'))).thenNo tu) hll
  have e2 : N + s.size + 1 + s.size + 1 = N + 2 * s.size + 2 := by omega
  rw [e2] at h3
  exact h3

theorem box_keep {L : Nat → Option Lab} {u w2 : World} (t : Tn (fun k => L k ≠ none) u w2) (b : Nat) (hb : b < u.heap.size) (hL : L b = none) (o : Nat) : w2.cell? ⟨b, o, none⟩ = u.cell? ⟨b, o, none⟩ := t.cell hb (by simp [hL])

set_option maxHeartbeats 4000000 in
set_option maxRecDepth 100000 in
theorem write_file (p : Nat) (L : Nat → Option Lab) (N : Nat) (S : St) (i : Nat) (s : ByteArray) (w : World) (h : PW w p L N S) (hi : i < 19) (hN : N + N + 2 * s.size + 2 ≤ 1099511627776) (hk : (S.ds i).kind = 5) (hfs : (S.fs (S.ds i).name.data.toList).isSome = true) :
    Calls Try.prog 18 #[.pointer (some ⟨p, 0, none⟩), .int .i64 (i : Int), .string s] w (WritePost w p L N S (i : Int) s) := by
  have hs63 : (s.size : Int) ≤ 1099511627776 := by omega
  have hat : S.at (i : Int) = S.ds i := by unfold St.at; rw [if_pos (by omega), Int.toNat_natCast]
  obtain ⟨k, nm, pl, hd⟩ : ∃ k nm pl, S.ds i = ⟨k, nm, pl⟩ := ⟨_, _, _, rfl⟩
  have hk' : k = 5 := by rw [hd] at hk; exact hk
  subst hk'
  have HAT := hid (at_is p L N S (i : Int) w h (by omega) (by omega) 5 nm pl (by rw [hat, hd]))
  obtain ⟨hpl, hnm⟩ : pl ≤ N ∧ nm.size ≤ 255 := by
    obtain ⟨c, mo, iv, tv, vs, hx⟩ := h
    have := hx.pl i hi
    rw [hd] at this
    exact this
  have hlp : ∀ u, Tn No w u → ∃ mo v, u.cell? ⟨p, 0, none⟩ = some (.map (some mo)) ∧ (Instr.lookup 65 (.map (some mo)) (.string nm) false).run Try.prog u = .ok v u ∧
      Calls Try.prog 52 #[v, .int .i64 (pl : Int), .string s] u fun e w2 => ∃ v', e = .returned v' ∧ Tn (fun k => L k ≠ none) u w2 ∧ w2.cell? ⟨p, 0, none⟩ = some (.map (some mo)) ∧ p < w2.heap.size ∧
        ∀ u2, Tn No w2 u2 → Calls Try.prog 28 #[.pointer (some ⟨p, 0, none⟩), .string nm, v'] u2 fun e w3 => e = .returned (.tuple #[]) ∧ Lft u p L w3 (N + s.size + 1) (S.layF nm pl s.data.toList) ∧ w3.cell? ⟨p, 0, none⟩ = some (.map (some mo)) :=
    fun u t => lay_put p L N S nm s pl u (h.no t) hnm hpl (by omega) (by rw [hd] at hfs; exact hfs)
  have HLP := hid hlp
  have haf : ∀ u w3, Lft u p L w3 (N + s.size + 1) (S.layF nm pl s.data.toList) → _ := fun u w3 hl => write_after p L N _ i nm s 5 pl u w3 hl hi hd hpl (by omega)
  have HAF := hid haf
  have hend : ∀ u w4, Tn No w u → Lft u p L w4 (N + 2 * s.size + 2) (((S.layF nm pl s.data.toList).setDe i ⟨5, nm, pl + s.size⟩).say 3 nm s.data.toList) → WritePost w p L N S (i : Int) s (.returned (.int .i64 (s.size : Int))) w4 := fun u w4 t hl => by
    have hk5 : (S.at (i : Int)).kind = 5 := by rw [hat]; exact hk
    refine ⟨by unfold writeRes; rw [if_pos (.inr (.inr hk5))], ?_⟩
    unfold St.write
    rw [if_neg (by rw [hk5]; omega), if_neg (by rw [hk5]; omega), if_pos hk5, hat, hd, Int.toNat_natCast]
    exact hl.trans t.any (fun _ _ e => e)
  have HE := hid hend
  have hLb : ∀ b, w.heap.size ≤ b → L b = none := fun b hb => by
    cases e : L b with
    | none => rfl
    | some x => have := h.lt b (by rw [e]; simp); omega
  have HLB := hid hLb
  have plt := h.plt
  have hi2 : (i : Int) < 19 := by omega
  have hi0 : (0 : Int) ≤ (i : Int) := by omega
  have hp63 : (pl : Int) + (s.size : Int) ≤ 9223372036854775807 := by omega
  clear hlp haf hend hat h hk hfs hd hLb hN
  go_enter Try.func18, Try.ntmps18
  go_wp2_with (go_at_call 50; refine (HAT.out _ (by repeat (first | exact Tn.refl _ _ | apply Tn.drew | apply Tn.drewN | apply Tn.alloc | (refine Tn.then ?_ (by assumption)) | (refine Tn.thenNo ?_ (by assumption))))).mono ?_; rintro e w1 ⟨rfl, ht1⟩; obtain ⟨mo, v, k0, hlk, hlay⟩ := HLP.out ((w1.alloc (.cells #[.int .i64 5, .string nm, .int .i64 (pl : Int)] 67)).drew) (by repeat (first | exact Tn.refl _ _ | apply Tn.drew | apply Tn.drewN | apply Tn.alloc | (refine Tn.then ?_ (by assumption)) | (refine Tn.thenNo ?_ (by assumption)))); have HLAY := hid hlay; have hz1 := ht1.size; have kp := (Tn.cell (o := 0) ht1 plt (fun e => e)); clear hlay)
  have hbb : (w1.alloc (.cells #[.int .i64 5, .string nm, .int .i64 (pl : Int)] 67)).heap.size = w1.heap.size + 1 := by simp
  have q1 : (w1.alloc (.cells #[.int .i64 5, .string nm, .int .i64 (pl : Int)] 67)).cell? ⟨w1.heap.size, 1, none⟩ = some (.string nm) := by rw [World.cell?_alloc_new]; rfl
  have q2 : (w1.alloc (.cells #[.int .i64 5, .string nm, .int .i64 (pl : Int)] 67)).cell? ⟨w1.heap.size, 2, none⟩ = some (.int .i64 (pl : Int)) := by rw [World.cell?_alloc_new]; rfl
  have TU : Tn No w (w1.alloc (.cells #[.int .i64 5, .string nm, .int .i64 (pl : Int)] 67)) := (by repeat (first | exact Tn.refl _ _ | apply Tn.drew | apply Tn.drewN | apply Tn.alloc | (refine Tn.then ?_ (by assumption)) | (refine Tn.thenNo ?_ (by assumption))))
  have Lb := HLB.out w1.heap.size hz1
  have HLb := hid Lb
  rw [World.cell?_drew] at k0
  generalize w1.alloc (.cells #[.int .i64 5, .string nm, .int .i64 (pl : Int)] 67) = u0 at *
  obtain ⟨b, hb⟩ : ∃ b, w1.heap.size = b := ⟨_, rfl⟩
  rw [hb] at q1 q2 HLb hbb ⊢
  have hb1 : b < u0.heap.size := by omega
  have hne1 : ¬ b = p := by omega
  have hne2 : ¬ p = b := by omega
  clear kp Lb hb hbb ht1 hz1
  go_region_held3 (fun w' => w'.cell? ⟨p, 0, none⟩ = some (.map (some mo)) ∧ w'.cell? ⟨b, 1, none⟩ = some (.string nm) ∧ w'.cell? ⟨b, 2, none⟩ = some (.int .i64 (pl : Int))) (go_keep) (first
    | (go_at_call 52; refine HLAY.out.mono ?_; rintro e w2 ⟨v', rfl, t2, k2, p2, hput⟩; have r1 := (box_keep t2 b hb1 HLb.out 1).trans q1; have r2 := (box_keep t2 b hb1 HLb.out 2).trans q2; have HPUT := hid hput; clear hput)
    | (go_at_call 28; refine (HPUT.out _ (by repeat (first | exact Tn.refl _ _ | apply Tn.drew | apply Tn.drewN | apply Tn.alloc | (refine Tn.then ?_ (by assumption)) | (refine Tn.thenNo ?_ (by assumption))))).mono ?_; rintro e w3 ⟨rfl, hl3, k3⟩; obtain ⟨d3, f3, p3, t3, hsay⟩ := HAF.out _ _ hl3; have s1 := (box_keep t3 b hb1 HLb.out 1).trans q1; have s2 := (box_keep t3 b hb1 HLb.out 2).trans q2; have HSAY := hid hsay; clear hsay))
  go_wp2_with fail
  clear q1 q2 k0 hlk HLAY HPUT HLP HAF r1 r2 k2 p2
  go_region
  all_goals go_wp2_with (go_at_call 51; refine (HSAY.out _ (by repeat (first | exact Tn.refl _ _ | apply Tn.drew | apply Tn.drewN | apply Tn.alloc | (refine Tn.then ?_ (by assumption)) | (refine Tn.thenNo ?_ (by assumption))))).mono ?_; rintro e w4 ⟨rfl, hl4⟩)
  all_goals go_ret
  all_goals exact HE.out _ w4 (by repeat (first | exact Tn.refl _ _ | apply Tn.drew | apply Tn.drewN | apply Tn.alloc | (refine Tn.then ?_ (by assumption)) | (refine Tn.thenNo ?_ (by assumption)))) hl4
end Go.Proofs.Ytkbdgdcicflocaa
