/-
  The walk of the law WorldFull: it answers true.
-/
import Derived.Test.YtkbdgdcicflocaaKnown
namespace Go.Proofs.Ytkbdgdcicflocaa
set_option linter.unusedSimpArgs false
set_option linter.unusedVariables false
open Go.RowKit
attribute [local go_sem ↓] Go.wp_at_zero Go.wp_at_succ

/-! ### pick -/
def pk (c n : Int) : Int := (if c < 0 then -(c + 1) else c) % n

set_option maxHeartbeats 1000000 in
theorem pick_raw (c n : Int) (w : World) (h0 : -9223372036854775808 ≤ c) (h1 : c ≤ 9223372036854775807) (hn : 1 ≤ n) (hn2 : n ≤ 1000) :
    Calls Try.prog 16 #[.int .i64 c, .int .i64 n] w fun e w' => e = .returned (.int .i64 (pk c n)) ∧ w' = w := by
  by_cases hc : c < 0
  · have hp : pk c n = (-(c + 1)) % n := by unfold pk; rw [if_pos hc]
    have hb : 0 ≤ -(c + 1) := by omega
    have hb2 : -(c + 1) ≤ 9223372036854775807 := by omega
    rw [hp]
    go_enter Try.func16, Try.ntmps16
    go_wp2
    go_ret
    exact ⟨ret_int (by rw [← Int.neg_tmod, Int.tmod_eq_emod_of_nonneg hb]), rfl⟩
  · have hp : pk c n = c % n := by unfold pk; rw [if_neg hc]
    have hb : 0 ≤ c := by omega
    rw [hp]
    go_enter Try.func16, Try.ntmps16
    go_wp2
    go_ret
    exact ⟨rfl, rfl⟩

/-! ### descriptors -/
/-- the descriptors below n are taken, all others free; the file is there -/
structure FP (S : St) (s : ByteArray) (n : Nat) : Prop where
  has : (S.fs s.data.toList).isSome = true
  lo : ∀ i, i < n → ¬ (S.ds i).kind = 0
  hi : ∀ i, n ≤ i → i < 19 → (S.ds i).kind = 0

theorem res_of {S : St} {s : ByteArray} {fl : Int} (h1 : 1 ≤ s.size) (h2 : s.size ≤ 255) (hz : zb s.data.toList = false) (hf : fl = 577 ∨ fl = 0 ∧ (S.fs s.data.toList).isSome = true) : openRes S s fl = match S.free with | none => -24 | some k => (k : Int) := by
  unfold openRes
  rw [if_neg (by omega), if_neg (by rw [hz]; rcases hf with rfl | ⟨rfl, _⟩ <;> simp), if_neg (by
    intro h
    rcases h with h | ⟨h, h'⟩
    · omega
    · rcases hf with e | ⟨_, e⟩
      · omega
      · simp [St.has, e] at h')]
  cases S.free <;> rfl
theorem fp_open {S : St} {s : ByteArray} {n : Nat} (h : FP S s n) (hn : n < 19) (h1 : 1 ≤ s.size) (h2 : s.size ≤ 255) (hz : zb s.data.toList = false) : openRes S s 0 = n ∧ FP (openSt S s 0) s (n + 1) := by
  have hr : openRes S s 0 = n := by rw [res_of h1 h2 hz (.inr ⟨rfl, h.has⟩), free_some S n hn h.lo (h.hi n (Nat.le_refl _) hn)]
  refine ⟨hr, ?_⟩
  unfold openSt
  rw [hr, if_neg (by omega), if_pos rfl, Int.toNat_natCast]
  refine ⟨h.has, fun i hi => ?_, fun i hi hi2 => ?_⟩
  · by_cases e : i = n
    · subst e; simp [St.openR, St.setDe, upd_same]
    · simp only [St.openR, St.setDe, upd_other _ _ e]; exact h.lo i (by omega)
  · simp only [St.openR, St.setDe, upd_other _ _ (show i ≠ n by omega)]; exact h.hi i (by omega) hi2
theorem fp_full {S : St} {s : ByteArray} (h : FP S s 19) (h1 : 1 ≤ s.size) (h2 : s.size ≤ 255) (hz : zb s.data.toList = false) : openRes S s 0 = -24 ∧ openSt S s 0 = S := by
  have hr : openRes S s 0 = -24 := by rw [res_of h1 h2 hz (.inr ⟨rfl, h.has⟩), free_none S h.lo]
  exact ⟨hr, by unfold openSt; rw [hr, if_pos (by omega)]⟩
theorem init_res (s : ByteArray) : (initSt (fun _ => none) ⟨#[]⟩).free = some 3 := by kernel_rfl
theorem fp_first (s : ByteArray) (h0 : ¬ openRes (initSt (fun _ => none) ⟨#[]⟩) s 577 < 0) : 1 ≤ s.size ∧ s.size ≤ 255 ∧ zb s.data.toList = false ∧ openRes (initSt (fun _ => none) ⟨#[]⟩) s 577 = 3 ∧ FP (openSt (initSt (fun _ => none) ⟨#[]⟩) s 577) s 4 := by
  have hfr : (initSt (fun _ => none) ⟨#[]⟩).free = some 3 := init_res s
  have hb : 1 ≤ s.size ∧ s.size ≤ 255 ∧ zb s.data.toList = false := by
    unfold openRes at h0
    split at h0
    · omega
    · split at h0
      · omega
      · rename_i h2
        split at h0
        · omega
        · rename_i h3
          refine ⟨by rcases Nat.eq_zero_or_pos s.size with e | e; exact absurd (.inl e) h3; exact e, by omega, ?_⟩
          cases e : zb s.data.toList with
          | false => rfl
          | true => exact absurd (.inr e) h2
  obtain ⟨h1, h2, hz⟩ := hb
  have hr : openRes (initSt (fun _ => none) ⟨#[]⟩) s 577 = 3 := by rw [res_of h1 h2 hz (.inl rfl), hfr]; rfl
  refine ⟨h1, h2, hz, hr, ?_⟩
  unfold openSt
  rw [hr, if_neg (by omega), if_neg (by omega)]
  have e3 : (3 : Int).toNat = 3 := rfl
  rw [e3]
  refine ⟨by simp [St.openW, St.addEv, St.put], fun i hi => ?_, fun i hi hi2 => ?_⟩
  · simp only [St.openW, St.addEv, St.put, St.setDe]
    by_cases e : i = 3
    · subst e; rw [upd_same]; simp
    · rw [upd_other _ _ e]
      have : i = 0 ∨ i = 1 ∨ i = 2 := by omega
      rcases this with rfl | rfl | rfl <;> simp [initSt, initDs]
  · simp only [St.openW, St.addEv, St.put, St.setDe]
    rw [upd_other _ _ (by omega)]
    simp only [initSt, initDs]
    rw [if_neg (by omega), if_neg (by omega), if_neg (by omega)]
    rfl
theorem fp_low (s : ByteArray) (h0 : openRes (initSt (fun _ => none) ⟨#[]⟩) s 577 < 0) : openRes (initSt (fun _ => none) ⟨#[]⟩) s 577 = -2 ∨ openRes (initSt (fun _ => none) ⟨#[]⟩) s 577 = -22 ∨ openRes (initSt (fun _ => none) ⟨#[]⟩) s 577 = -36 := by
  have hfr : (initSt (fun _ => none) ⟨#[]⟩).free = some 3 := init_res s
  unfold openRes at h0 ⊢
  rw [hfr] at h0 ⊢
  split
  · exact .inr (.inr rfl)
  · split
    · exact .inr (.inl rfl)
    · split
      · exact .inl rfl
      · rename_i h1 h2 h3
        rw [if_neg h1, if_neg h2, if_neg h3] at h0
        simp at h0
/-- one is let go, and given again -/
theorem fp_again {S : St} {s : ByteArray} (h : FP S s 19) (h1 : 1 ≤ s.size) (h2 : s.size ≤ 255) (hz : zb s.data.toList = false) (k : Nat) (hk : k < 19) :
    closeRes S (k : Int) = 0 ∧ closeRes (S.close (k : Int)) (k : Int) = -9 ∧ (S.close (k : Int)).close (k : Int) = S.close (k : Int) ∧ openRes (S.close (k : Int)) s 577 = k ∧ openRes (openSt (S.close (k : Int)) s 577) s 0 = -24 := by
  have hat : ∀ T : St, T.at (k : Int) = T.ds k := fun T => by unfold St.at; rw [if_pos (by omega), Int.toNat_natCast]
  have hc : S.close (k : Int) = S.setDe k noDe := by unfold St.close; rw [hat, if_neg (h.lo k hk), Int.toNat_natCast]
  have hk0 : ((S.setDe k noDe).ds k).kind = 0 := by simp [St.setDe, upd_same, noDe]
  have hfr : (S.setDe k noDe).free = some k := free_some _ k hk (fun i hi => by simp only [St.setDe, upd_other _ _ (show i ≠ k by omega)]; exact h.lo i (by omega)) hk0
  have hr : openRes (S.setDe k noDe) s 577 = k := by rw [res_of h1 h2 hz (.inl rfl), hfr]
  rw [hc]
  refine ⟨by unfold closeRes; rw [hat, if_neg (h.lo k hk)], by unfold closeRes; rw [hat, if_pos hk0], by unfold St.close; rw [hat, if_pos hk0], hr, ?_⟩
  unfold openSt
  rw [hr, if_neg (by omega), if_neg (by omega), Int.toNat_natCast]
  rw [res_of h1 h2 hz (.inr ⟨rfl, by simp [St.openW, St.addEv, St.put]⟩), free_none]
  intro i hi
  simp only [St.openW, St.addEv, St.put, St.setDe]
  by_cases e : i = k
  · subst e; rw [upd_same]; simp
  · rw [upd_other _ _ e, upd_other _ _ e]; exact h.lo i hi

theorem wpk (c : Int) : 0 ≤ pk c 19 ∧ pk c 19 < 19 := by unfold pk; omega

set_option maxHeartbeats 4000000 in
set_option maxRecDepth 100000 in
theorem full_walk (s : ByteArray) (c : Int) (w : World) (hs : s.size ≤ 140737488355328) (hc0 : -9223372036854775808 ≤ c) (hc1 : c ≤ 9223372036854775807) : Calls Try.prog 8 #[.string s, .int .i64 c] w fun e w' => e = .returned (.bool true) ∧ Tn No w w' := by
  have hnew := own_new ⟨#[]⟩ w w (Tn.refl _ _) (by unfold maxLen; decide)
  have hml : s.size ≤ maxLen := by unfold maxLen; omega
  have HN := hid hnew
  have HK := hid known_raw
  obtain ⟨f0, hf0⟩ : ∃ f0, openRes (initSt (fun _ => none) ⟨#[]⟩) s 577 = f0 := ⟨_, rfl⟩
  have ho1 : ∀ p u, Own w u p 0 (initSt (fun _ => none) ⟨#[]⟩) → Calls Try.prog 21 #[.pointer (some ⟨p, 0, none⟩), .string s, .int .i64 577] u fun e u' => e = .returned (.int .i64 f0) ∧ Own w u' p 2 (openSt (initSt (fun _ => none) ⟨#[]⟩) s 577) := fun p u h => by
    have := own_open h s 577 hml (by omega)
    rw [hf0] at this
    exact this
  have HO1 := hid ho1
  clear hnew ho1
  by_cases h0 : f0 < 0
  · have hlow := fp_low s (by rw [hf0]; exact h0)
    rw [hf0] at hlow
    clear hf0 hml hs hc0 hc1 h0
    rcases hlow with rfl | rfl | rfl
    all_goals
      go_enter Try.func8, Try.ntmps8
      go_wp2_with (first
        | (go_at_call 9; refine HN.out.mono ?_; rintro e w1 ⟨p, rfl, h1, t1⟩)
        | (go_at_call 11; refine (HK.out _).mono ?_; rintro e w2 ⟨rfl, t2⟩)
        | (go_at_call 21; refine (HO1.out _ _ (h1.no t2)).mono ?_; rintro e w3 ⟨rfl, h3⟩))
      go_ret
      exact ⟨rfl, h3.tn⟩
  · obtain ⟨h1, h2, hz, hr, hfp⟩ := fp_first s (by rw [hf0]; exact h0)
    rw [hf0] at hr
    subst hr
    obtain ⟨S4, hS4⟩ : ∃ S4, openSt (initSt (fun _ => none) ⟨#[]⟩) s 577 = S4 := ⟨_, rfl⟩
    rw [hS4] at hfp HO1
    have HFP := hid hfp
    obtain ⟨hk0, hk1⟩ := wpk c
    have HPK := hid (fun u => pick_raw c 19 u hc0 hc1 (by omega) (by omega))
    obtain ⟨k, hk⟩ : ∃ k : Nat, pk c 19 = (k : Int) := ⟨(pk c 19).toNat, by omega⟩
    rw [hk] at HPK hk1
    have hk19 : k < 19 := by omega
    have H1 := hid (And.intro h1 (And.intro h2 hz))
    have HML := hid hml
    clear hf0 hml hs hc0 hc1 h0 h1 h2 hz hfp hS4 hk hk0
    go_enter Try.func8, Try.ntmps8
    go_wp2_with (first
      | (go_at_call 9; refine HN.out.mono ?_; rintro e w1 ⟨p, rfl, h1, t1⟩)
      | (go_at_call 11; refine (HK.out _).mono ?_; rintro e w2 ⟨rfl, t2⟩)
      | (go_at_call 21; refine (HO1.out _ _ (h1.no t2)).mono ?_; rintro e w3 ⟨rfl, h3⟩))
    go_loopw [7] (fun i u => ∃ (n : Nat) (S : St), 4 ≤ n ∧ n ≤ 19 ∧ i = .int .i64 (n : Int) ∧ FP S s n ∧ Own w u p (2 * n) S) (fun i _ => 19 - (intOf i).toNat)
    case atStart => exact ⟨4, S4, by omega, by omega, rfl, HFP.out, h3.mono (by omega)⟩
    case round =>
      obtain ⟨n, S, hn4, hn, rfl, hfp, ho⟩ := hrel
      by_cases hlt : n < 19
      · obtain ⟨hr, hfp'⟩ := fp_open hfp hlt H1.out.1 H1.out.2.1 H1.out.2.2
        have hop := own_open ho s 0 HML.out (by omega)
        rw [hr] at hop
        have HOP := hid hop
        have HF' := hid hfp'
        have hlt2 : (n : Int) < 19 := by omega
        clear hop hfp' hfp ho hr
        go_wp2_with (go_at_call 21; refine HOP.out.mono ?_; rintro e w4 ⟨rfl, h4⟩)
        go_roundw
        case rel => exact ⟨n + 1, _, by omega, by omega, by go_num, HF'.out, h4.mono (by omega)⟩
        case measure => simp [intOf]; omega
      · obtain rfl : n = 19 := by omega
        obtain ⟨hr, hst⟩ := fp_full hfp H1.out.1 H1.out.2.1 H1.out.2.2
        obtain ⟨a1, a2, a3, a4, a5⟩ := fp_again hfp H1.out.1 H1.out.2.1 H1.out.2.2 k hk19
        have hopen : ∀ u, Own w u p 38 S → Calls Try.prog 21 #[.pointer (some ⟨p, 0, none⟩), .string s, .int .i64 0] u fun e u' => e = .returned (.int .i64 (-24)) ∧ Own w u' p 40 S := fun u h => by
          have := own_open h s 0 HML.out (by omega)
          rw [hr, hst] at this
          exact this
        have hcl1 : ∀ u, Own w u p 40 S → Calls Try.prog 23 #[.pointer (some ⟨p, 0, none⟩), .int .i64 (k : Int)] u fun e u' => e = .returned (.int .i64 0) ∧ Own w u' p 40 (S.close (k : Int)) := fun u h => by
          have := own_close h (k : Int) (by omega) (by omega)
          rw [a1] at this
          exact this
        have hcl2 : ∀ u, Own w u p 40 (S.close (k : Int)) → Calls Try.prog 23 #[.pointer (some ⟨p, 0, none⟩), .int .i64 (k : Int)] u fun e u' => e = .returned (.int .i64 (-9)) ∧ Own w u' p 40 (S.close (k : Int)) := fun u h => by
          have := own_close h (k : Int) (by omega) (by omega)
          rw [a2, a3] at this
          exact this
        have hop2 : ∀ u, Own w u p 40 (S.close (k : Int)) → Calls Try.prog 21 #[.pointer (some ⟨p, 0, none⟩), .string s, .int .i64 577] u fun e u' => e = .returned (.int .i64 (k : Int)) ∧ Own w u' p 42 (openSt (S.close (k : Int)) s 577) := fun u h => by
          have := own_open h s 577 HML.out (by omega)
          rw [a4] at this
          exact this
        have hop3 : ∀ u, Own w u p 42 (openSt (S.close (k : Int)) s 577) → Calls Try.prog 21 #[.pointer (some ⟨p, 0, none⟩), .string s, .int .i64 0] u fun e u' => e = .returned (.int .i64 (-24)) ∧ Tn No w u' := fun u h => by
          have := own_open h s 0 HML.out (by omega)
          rw [a5] at this
          exact this.mono (fun e u' ⟨x, y⟩ => ⟨x, y.tn⟩)
        have HA := hid hopen
        have HB := hid hcl1
        have HC := hid hcl2
        have HD := hid hop2
        have HE := hid hop3
        have HOW := hid ho
        clear hopen hcl1 hcl2 hop2 hop3 hr hst a1 a2 a3 a4 a5 hfp ho
        go_wp2_with (first
          | (go_at_call 16; refine (HPK.out _).mono ?_; rintro e w5 ⟨rfl, rfl⟩)
          | (go_at_call_of 21 (Value.int IntKind.i64 577); refine (HD.out _ h8).mono ?_; rintro e w9 ⟨rfl, h9⟩)
          | (go_at_call 21; refine (HE.out _ h9).mono ?_; rintro e w10 ⟨rfl, t10⟩)
          | (go_at_call 21; refine (HA.out _ HOW.out).mono ?_; rintro e w6 ⟨rfl, h6⟩)
          | (go_at_call 23; refine (HC.out _ h7).mono ?_; rintro e w8 ⟨rfl, h8⟩)
          | (go_at_call 23; refine (HB.out _ h6).mono ?_; rintro e w7 ⟨rfl, h7⟩))
        go_ret
        exact ⟨by first | rfl | simp, t10⟩
end Go.Proofs.Ytkbdgdcicflocaa
