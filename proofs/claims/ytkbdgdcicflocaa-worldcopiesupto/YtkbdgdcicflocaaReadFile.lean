/-
  SysRead of a file.
-/
import Derived.Test.YtkbdgdcicflocaaWriteA
namespace Go.Proofs.Ytkbdgdcicflocaa
set_option linter.unusedSimpArgs false
set_option linter.unusedVariables false
open Go.RowKit
attribute [local go_sem ↓] Go.wp_at_zero Go.wp_at_succ

theorem nx_fits (l : List UInt8) (pl n : Nat) : pl + (nx l pl n).length ≤ max pl l.length := by simp [nx]; omega

set_option maxHeartbeats 4000000 in
set_option maxRecDepth 100000 in
theorem read_file (p : Nat) (L : Nat → Option Lab) (N : Nat) (S : St) (i : Nat) (n : Nat) (w : World) (h : PW w p L N S) (hi : i < 19) (hN : N + N ≤ 1099511627776) (hn : n ≤ 18446744073709551615) (hk : (S.ds i).kind = 4) :
    Calls Try.prog 24 #[.pointer (some ⟨p, 0, none⟩), .int .i64 (i : Int), .int .u64 (n : Int)] w (ReadPost w p L N S (i : Int) n) := by
  have hat : S.at (i : Int) = S.ds i := by unfold St.at; rw [if_pos (by omega), Int.toNat_natCast]
  obtain ⟨k, nm, pl, hd⟩ : ∃ k nm pl, S.ds i = ⟨k, nm, pl⟩ := ⟨_, _, _, rfl⟩
  have hk' : k = 4 := by rw [hd] at hk; exact hk
  subst hk'
  have HAT := hid (at_is p L N S (i : Int) w h (by omega) (by omega) 4 nm pl (by rw [hat, hd]))
  have hrt : readTx S (i : Int) n = nx ((S.fs nm.data.toList).getD []) pl n := by
    unfold readTx
    rw [hat, hd]
    rfl
  obtain ⟨hpl, hnm⟩ : pl ≤ N ∧ nm.size ≤ 255 := by
    obtain ⟨c, mo, iv, tv, vs, hx⟩ := h
    have := hx.pl i hi
    rw [hd] at this
    exact this
  have hfit : pl + (nx ((S.fs nm.data.toList).getD []) pl n).length ≤ N := by
    obtain ⟨c, mo, iv, tv, vs, hx⟩ := h
    obtain ⟨v, hr, hbr, hlab, hlen, _⟩ := fm_look2 hx.fm hx.lt nm (by unfold maxLen; omega)
    have := nx_fits ((S.fs nm.data.toList).getD []) pl n
    omega
  have hlp : ∀ u, Tn No w u → ∃ mo v, u.cell? ⟨p, 0, none⟩ = some (.map mo) ∧ (Instr.lookup 65 (.map mo) (.string nm) false).run Try.prog u = .ok v u ∧
      (∀ u2, Tn No u u2 → Calls Try.prog 56 #[v, .int .i64 (pl : Int), .int .u64 (n : Int)] u2 fun e w2 => e = .returned (.string (str (nx ((S.fs nm.data.toList).getD []) pl n))) ∧ w2 = u2) ∧
      u.cell? ⟨p, 3 + i * 3 + 2, none⟩ = some (.int .i64 (pl : Int)) ∧ u.frozen? ⟨p, 3 + i * 3 + 2, none⟩ = false ∧ p < u.heap.size ∧
      ∀ w3, Tn No (u.setCell ⟨p, 3 + i * 3 + 2, none⟩ (.int .i64 ((pl : Int) + ((nx ((S.fs nm.data.toList).getD []) pl n).length : Int)))) w3 → ReadPost w p L N S (i : Int) n (.returned (.tuple #[.string (str (nx ((S.fs nm.data.toList).getD []) pl n)), .int .i64 ((nx ((S.fs nm.data.toList).getD []) pl n).length : Int)])) w3 := fun u t => by
    obtain ⟨c, mo, iv, tv, vs, hx⟩ := h.no t
    obtain ⟨v, hr, hbr, hlab, hlen, _⟩ := fm_look2 hx.fm hx.lt nm (by unfold maxLen; omega)
    obtain ⟨_, _, d2⟩ := hx.de i hi
    rw [hd] at d2
    refine ⟨mo, v, (hx.sc.cell 0 (by omega)).trans (by rw [hx.c0]), hr, fun u2 t2 => ?_, d2, hx.sc.froz _, hx.sc.lt, fun w3 t3 => ?_⟩
    · have := next_raw v _ pl (n : Int) u2 (hbr.no t2) (by omega) (by omega) (by omega)
      rw [Int.toNat_natCast] at this
      exact this
    · refine ⟨by unfold readRes; rw [if_pos (.inr (by rw [hat, hd])), hrt], ?_⟩
      unfold St.sread
      rw [if_neg (by rw [hat, hd]; simp), if_pos (by rw [hat, hd]), hrt, hat, hd, Int.toNat_natCast]
      have e : ((pl + (nx ((S.fs nm.data.toList).getD []) pl n).length : Nat) : Int) = (pl : Int) + ((nx ((S.fs nm.data.toList).getD []) pl n).length : Int) := by omega
      rw [← e] at t3
      have hpx := hx.setPl i hi (pl + (nx ((S.fs nm.data.toList).getD []) pl n).length) hfit
      rw [hd] at hpx
      exact ⟨L, ⟨_, _, _, _, _, hpx.no t3⟩, (t.any.trans ((Tn.refl _ u).own hx.labs (3 + i * 3 + 2) _) (fun _ _ e => e) (fun j hj e => e)).thenNo t3, fun _ _ e => e⟩
  have HLP := hid hlp
  have plt := h.plt
  have hi2 : (i : Int) < 19 := by omega
  have hi0 : (0 : Int) ≤ (i : Int) := by omega
  obtain ⟨t, ht⟩ : ∃ t, nx ((S.fs nm.data.toList).getD []) pl n = t := ⟨_, rfl⟩
  rw [ht] at HLP hfit
  have hsz : (str t).size = t.length := str_size _
  obtain ⟨st, hst⟩ : ∃ st, str t = st := ⟨_, rfl⟩
  rw [hst] at HLP hsz
  rw [← hsz] at HLP hfit
  have hp63 : (pl : Int) + (st.size : Int) ≤ 9223372036854775807 := by omega
  clear hlp hat h hk hd hN hrt ht hst hsz hfit
  go_enter Try.func24, Try.ntmps24
  go_wp2_with (go_at_call 50; refine (HAT.out _ (by repeat (first | exact Tn.refl _ _ | apply Tn.drew | apply Tn.drewN | apply Tn.alloc | (refine Tn.then ?_ (by assumption)) | (refine Tn.thenNo ?_ (by assumption))))).mono ?_; rintro e w1 ⟨rfl, ht1⟩; obtain ⟨mo, v, k0, hlk, hnext, kd, kf, kl, hend⟩ := HLP.out ((w1.alloc (.cells #[.int .i64 4, .string nm, .int .i64 (pl : Int)] 67)).drew) (by repeat (first | exact Tn.refl _ _ | apply Tn.drew | apply Tn.drewN | apply Tn.alloc | (refine Tn.then ?_ (by assumption)) | (refine Tn.thenNo ?_ (by assumption)))); have HNEXT := hid hnext; have HEND := hid hend; clear hnext hend; have hz1 := ht1.size; have kp := (Tn.cell (o := 0) ht1 plt (fun e => e)); have kp2 := (Tn.cell (o := 3 + i * 3 + 2) ht1 plt (fun e => e)))
  have hbb : (w1.alloc (.cells #[.int .i64 4, .string nm, .int .i64 (pl : Int)] 67)).heap.size = w1.heap.size + 1 := by simp
  have q1 : (w1.alloc (.cells #[.int .i64 4, .string nm, .int .i64 (pl : Int)] 67)).cell? ⟨w1.heap.size, 1, none⟩ = some (.string nm) := by rw [World.cell?_alloc_new]; rfl
  have q2 : (w1.alloc (.cells #[.int .i64 4, .string nm, .int .i64 (pl : Int)] 67)).cell? ⟨w1.heap.size, 2, none⟩ = some (.int .i64 (pl : Int)) := by rw [World.cell?_alloc_new]; rfl
  rw [World.cell?_drew] at k0 kd
  generalize w1.alloc (.cells #[.int .i64 4, .string nm, .int .i64 (pl : Int)] 67) = u0 at *
  obtain ⟨b, hb⟩ : ∃ b, w1.heap.size = b := ⟨_, rfl⟩
  rw [hb] at q1 q2 hbb ⊢
  have hb1 : b < u0.heap.size := by omega
  have hne1 : ¬ b = p := by omega
  have hne2 : ¬ p = b := by omega
  clear kp kp2 hb hbb ht1 hz1
  go_region_held3 (fun w' => w'.cell? ⟨p, 0, none⟩ = some (.map mo) ∧ w'.cell? ⟨b, 1, none⟩ = some (.string nm) ∧ w'.cell? ⟨b, 2, none⟩ = some (.int .i64 (pl : Int))) (go_keep) (first
    | (go_at_call 56; refine (HNEXT.out _ (by repeat (first | exact Tn.refl _ _ | apply Tn.drew | apply Tn.drewN | apply Tn.alloc | (refine Tn.then ?_ (by assumption)) | (refine Tn.thenNo ?_ (by assumption))))).mono ?_; rintro e w2 ⟨rfl, rfl⟩))
  go_wp2_with fail
  clear q1 q2 k0 hlk HNEXT HLP
  go_region
  all_goals go_wp2_with fail
  all_goals go_ret2
  all_goals exact HEND.out _ (by repeat (first | exact Tn.refl _ _ | apply Tn.drew | apply Tn.drewN | apply Tn.alloc | (refine Tn.then ?_ (by assumption)) | (refine Tn.thenNo ?_ (by assumption))))

theorem read_raw (p : Nat) (L : Nat → Option Lab) (N : Nat) (S : St) (fd : Int) (n : Nat) (w : World) (h : PW w p L N S) (h0 : -9223372036854775808 ≤ fd) (h1 : fd ≤ 9223372036854775807) (hN : N + N ≤ 1099511627776) (hn : n ≤ 18446744073709551615) :
    Calls Try.prog 24 #[.pointer (some ⟨p, 0, none⟩), .int .i64 fd, .int .u64 (n : Int)] w (ReadPost w p L N S fd n) := by
  by_cases hk : (S.at fd).kind = 1
  · exact read_in p L N S fd n w h h0 h1 hn hk
  by_cases hk4 : (S.at fd).kind = 4
  · have hr : 0 ≤ fd ∧ fd < 19 := by
      rcases Classical.em (0 ≤ fd ∧ fd < 19) with h | h
      · exact h
      · exfalso; unfold St.at at hk4; rw [if_neg h] at hk4; simp [noDe] at hk4
    have ha : S.at fd = S.ds fd.toNat := by unfold St.at; rw [if_pos hr]
    obtain ⟨i, rfl⟩ : ∃ i : Nat, fd = (i : Int) := ⟨fd.toNat, by omega⟩
    rw [Int.toNat_natCast] at ha
    rw [ha] at hk4
    exact read_file p L N S i n w h (by omega) hN hn hk4
  · exact read_no p L N S fd n w h h0 h1 hk hk4
end Go.Proofs.Ytkbdgdcicflocaa
