/-
  known: it answers true.
-/
import Derived.Test.YtkbdgdcicflocaaOwn
namespace Go.Proofs.Ytkbdgdcicflocaa
set_option linter.unusedSimpArgs false
set_option linter.unusedVariables false
open Go.RowKit
attribute [local go_sem ↓] Go.wp_at_zero Go.wp_at_succ

set_option maxHeartbeats 4000000 in
set_option maxRecDepth 100000 in
theorem known_raw (w : World) : Calls Try.prog 11 #[] w fun e w' => e = .returned (.bool true) ∧ Tn No w w' := by
  have hnew := own_new ⟨#[97, 98, 10, 99]⟩ w w (Tn.refl _ _) (by unfold maxLen; decide)
  have hline : ∀ p u, Own w u p 0 K0 → Calls Try.prog 25 #[.pointer (some ⟨p, 0, none⟩)] u fun e u' => e = .returned (.string ⟨#[97, 98, 10]⟩) ∧ Own w u' p 0 K1 := fun p u h => by
    have := own_line h
    rw [k_line] at this
    exact this
  have hwf : ∀ p u, Own w u p 0 K1 → Calls Try.prog 32 #[.pointer (some ⟨p, 0, none⟩), .string ⟨#[102]⟩, .string ⟨#[120, 121, 122]⟩] u fun e u' => e = .returned (.bool true) ∧ Own w u' p 100 K2 := fun p u h => by
    have := own_wfile h wf_k1 bf bxyz (by unfold maxLen; decide) (by decide)
    rw [k_wf] at this
    exact this.mono (fun e u' ⟨a, b⟩ => ⟨a, b.mono (by decide)⟩)
  have hrf : ∀ p u, Own w u p 100 K2 → Calls Try.prog 22 #[.pointer (some ⟨p, 0, none⟩), .string ⟨#[102]⟩] u fun e u' => e = .returned (.tuple #[.string ⟨#[120, 121, 122]⟩, .bool true]) ∧ Own w u' p 200 K3 := fun p u h => by
    have := own_rfile h bf (by unfold maxLen; decide) (by decide)
    rw [k_rf, k_rt] at this
    exact this.mono (fun e u' ⟨a, b⟩ => ⟨a, b.mono (by decide)⟩)
  have hout : ∀ p u, Own w u p 200 K3 → Calls Try.prog 17 #[.pointer (some ⟨p, 0, none⟩), .string ⟨#[113]⟩] u fun e u' => e = .returned (.tuple #[]) ∧ Own w u' p 300 K4 := fun p u h => by
    have := own_out h wf_k3 bq (by decide)
    exact this.mono (fun e u' ⟨a, b⟩ => ⟨a, b.mono (by decide)⟩)
  have htr : ∀ p u, Own w u p 300 K4 → Calls Try.prog 19 #[.pointer (some ⟨p, 0, none⟩)] u fun e u' => ∃ g cap, e = .returned (.slice (some ⟨g, 0, none⟩) 2 cap) ∧ u'.cell? ⟨g, 2, none⟩ = some (.string ⟨#[120, 121, 122]⟩) ∧ u'.cell? ⟨g, 3, none⟩ = some (.int .i64 1) ∧ Tn No w u' := fun p u h => by
    have h0 := h.tn
    refine (own_trace h (by decide)).mono (fun e u' ⟨v, he, htv, t⟩ => ?_)
    rw [k_tr] at htv
    obtain ⟨g, cap, hv, _⟩ := htv.rw.pos (by decide)
    subst hv
    have e0 := (htv.ev 0 _ rfl).2.2
    have e1 := (htv.ev 1 _ rfl).1
    exact ⟨g, cap, he, e0, e1, h0.then t⟩
  have HN := hid hnew
  have HL := hid hline
  have HW := hid hwf
  have HR := hid hrf
  have HO := hid hout
  have HT := hid htr
  clear hnew hline hwf hrf hout htr
  go_enter Try.func11, Try.ntmps11
  go_wp2_with (first
    | (go_at_call 9; refine HN.out.mono ?_; rintro e w1 ⟨p, rfl, h1, t1⟩)
    | (go_at_call 25; refine (HL.out _ _ h1).mono ?_; rintro e w2 ⟨rfl, h2⟩)
    | (go_at_call 32; refine (HW.out _ _ h2).mono ?_; rintro e w3 ⟨rfl, h3⟩)
    | (go_at_call 22; refine (HR.out _ _ h3).mono ?_; rintro e w4 ⟨rfl, h4⟩)
    | (go_at_call 17; refine (HO.out _ _ h4).mono ?_; rintro e w5 ⟨rfl, h5⟩)
    | (go_at_call 19; refine (HT.out _ _ h5).mono ?_; rintro e w6 ⟨g, cap, rfl, q0, q1, t6⟩))
  go_ret
  exact ⟨rfl, t6⟩
end Go.Proofs.Ytkbdgdcicflocaa
namespace Go.Proofs.Ytkbdgdcicflocaa
set_option linter.unusedSimpArgs false
set_option linter.unusedVariables false
open Go.RowKit
attribute [local go_sem ↓] Go.wp_at_zero Go.wp_at_succ

/-! ### pick -/
def pk (c n : Int) : Int := (if c < 0 then -(c + 1) else c) % n

set_option maxHeartbeats 1000000 in
theorem pick_raw (c n : Int) (w : World) (h0 : -9223372036854775808 ≤ c) (h1 : c ≤ 9223372036854775807) (hn : 1 ≤ n) (hn2 : n ≤ 1000) :
    Calls Try.prog 16 #[.int .i64 c, .int .i64 n] w fun e w' => e = .returned (.int .i64 (pk c n)) ∧ w' = w := by
  by_cases hc : c < 0
  · have hp : pk c n = (-(c + 1)) % n := by unfold pk; rw [if_pos hc]
    have hb : 0 ≤ -(c + 1) := by omega
    have hb2 : -(c + 1) ≤ 9223372036854775807 := by omega
    rw [hp]
    go_enter Try.func16, Try.ntmps16
    go_wp2
    go_ret
    exact ⟨ret_int (by rw [← Int.neg_tmod, Int.tmod_eq_emod_of_nonneg hb]), rfl⟩
  · have hp : pk c n = c % n := by unfold pk; rw [if_neg hc]
    have hb : 0 ≤ c := by omega
    rw [hp]
    go_enter Try.func16, Try.ntmps16
    go_wp2
    go_ret
    exact ⟨rfl, rfl⟩

/-! ### descriptors -/
/-- the descriptors below n are taken, all others free; the file is there -/
structure FP (S : St) (s : ByteArray) (n : Nat) : Prop where
  has : (S.fs s.data.toList).isSome = true
  lo : ∀ i, i < n → ¬ (S.ds i).kind = 0
  hi : ∀ i, n ≤ i → i < 19 → (S.ds i).kind = 0

theorem res_of {S : St} {s : ByteArray} {fl : Int} (h1 : 1 ≤ s.size) (h2 : s.size ≤ 255) (hz : zb s.data.toList = false) (hf : fl = 577 ∨ fl = 0 ∧ (S.fs s.data.toList).isSome = true) : openRes S s fl = match S.free with | none => -24 | some k => (k : Int) := by
  unfold openRes
  rw [if_neg (by omega), if_neg (by rw [hz]; rcases hf with rfl | ⟨rfl, _⟩ <;> simp), if_neg (by
    intro h
    rcases h with h | ⟨h, h'⟩
    · omega
    · rcases hf with e | ⟨_, e⟩
      · omega
      · simp [St.has, e] at h')]
  cases S.free <;> rfl
theorem fp_open {S : St} {s : ByteArray} {n : Nat} (h : FP S s n) (hn : n < 19) (h1 : 1 ≤ s.size) (h2 : s.size ≤ 255) (hz : zb s.data.toList = false) : openRes S s 0 = n ∧ FP (openSt S s 0) s (n + 1) := by
  have hr : openRes S s 0 = n := by rw [res_of h1 h2 hz (.inr ⟨rfl, h.has⟩), free_some S n hn h.lo (h.hi n (Nat.le_refl _) hn)]
  refine ⟨hr, ?_⟩
  unfold openSt
  rw [hr, if_neg (by omega), if_pos rfl, Int.toNat_natCast]
  refine ⟨h.has, fun i hi => ?_, fun i hi hi2 => ?_⟩
  · by_cases e : i = n
    · subst e; simp [St.openR, St.setDe, upd_same]
    · simp only [St.openR, St.setDe, upd_other _ _ e]; exact h.lo i (by omega)
  · simp only [St.openR, St.setDe, upd_other _ _ (show i ≠ n by omega)]; exact h.hi i (by omega) hi2
theorem fp_full {S : St} {s : ByteArray} (h : FP S s 19) (h1 : 1 ≤ s.size) (h2 : s.size ≤ 255) (hz : zb s.data.toList = false) : openRes S s 0 = -24 ∧ openSt S s 0 = S := by
  have hr : openRes S s 0 = -24 := by rw [res_of h1 h2 hz (.inr ⟨rfl, h.has⟩), free_none S h.lo]
  exact ⟨hr, by unfold openSt; rw [hr, if_pos (by omega)]⟩
theorem init_res (s : ByteArray) : (initSt (fun _ => none) ⟨#[]⟩).free = some 3 := by kernel_rfl
theorem fp_first (s : ByteArray) (h0 : ¬ openRes (initSt (fun _ => none) ⟨#[]⟩) s 577 < 0) : 1 ≤ s.size ∧ s.size ≤ 255 ∧ zb s.data.toList = false ∧ openRes (initSt (fun _ => none) ⟨#[]⟩) s 577 = 3 ∧ FP (openSt (initSt (fun _ => none) ⟨#[]⟩) s 577) s 4 := by
  have hfr : (initSt (fun _ => none) ⟨#[]⟩).free = some 3 := init_res s
  have hb : 1 ≤ s.size ∧ s.size ≤ 255 ∧ zb s.data.toList = false := by
    unfold openRes at h0
    split at h0
    · omega
    · split at h0
      · omega
      · rename_i h2
        split at h0
        · omega
        · rename_i h3
          refine ⟨by rcases Nat.eq_zero_or_pos s.size with e | e; exact absurd (.inl e) h3; exact e, by omega, ?_⟩
          cases e : zb s.data.toList with
          | false => rfl
          | true => exact absurd (.inr e) h2
  obtain ⟨h1, h2, hz⟩ := hb
  have hr : openRes (initSt (fun _ => none) ⟨#[]⟩) s 577 = 3 := by rw [res_of h1 h2 hz (.inl rfl), hfr]; rfl
  refine ⟨h1, h2, hz, hr, ?_⟩
  unfold openSt
  rw [hr, if_neg (by omega), if_neg (by omega)]
  have e3 : (3 : Int).toNat = 3 := rfl
  rw [e3]
  refine ⟨by simp [St.openW, St.addEv, St.put], fun i hi => ?_, fun i hi hi2 => ?_⟩
  · simp only [St.openW, St.addEv, St.put, St.setDe]
    by_cases e : i = 3
    · subst e; rw [upd_same]; simp
    · rw [upd_other _ _ e]
      have : i = 0 ∨ i = 1 ∨ i = 2 := by omega
      rcases this with rfl | rfl | rfl <;> simp [initSt, initDs]
  · simp only [St.openW, St.addEv, St.put, St.setDe]
    rw [upd_other _ _ (by omega)]
    simp only [initSt, initDs]
    rw [if_neg (by omega), if_neg (by omega), if_neg (by omega)]
    rfl
theorem fp_low (s : ByteArray) (h0 : openRes (initSt (fun _ => none) ⟨#[]⟩) s 577 < 0) : openRes (initSt (fun _ => none) ⟨#[]⟩) s 577 = -2 ∨ openRes (initSt (fun _ => none) ⟨#[]⟩) s 577 = -22 ∨ openRes (initSt (fun _ => none) ⟨#[]⟩) s 577 = -36 := by
  have hfr : (initSt (fun _ => none) ⟨#[]⟩).free = some 3 := init_res s
  unfold openRes at h0 ⊢
  rw [hfr] at h0 ⊢
  split
  · exact .inr (.inr rfl)
  · split
    · exact .inr (.inl rfl)
    · split
      · exact .inl rfl
      · rename_i h1 h2 h3
        rw [if_neg h1, if_neg h2, if_neg h3] at h0
        simp at h0
/-- one is let go, and given again -/
theorem fp_again {S : St} {s : ByteArray} (h : FP S s 19) (h1 : 1 ≤ s.size) (h2 : s.size ≤ 255) (hz : zb s.data.toList = false) (k : Nat) (hk : k < 19) :
    closeRes S (k : Int) = 0 ∧ closeRes (S.close (k : Int)) (k : Int) = -9 ∧ (S.close (k : Int)).close (k : Int) = S.close (k : Int) ∧ openRes (S.close (k : Int)) s 577 = k ∧ openRes (openSt (S.close (k : Int)) s 577) s 0 = -24 := by
  have hat : ∀ T : St, T.at (k : Int) = T.ds k := fun T => by unfold St.at; rw [if_pos (by omega), Int.toNat_natCast]
  have hc : S.close (k : Int) = S.setDe k noDe := by unfold St.close; rw [hat, if_neg (h.lo k hk), Int.toNat_natCast]
  have hk0 : ((S.setDe k noDe).ds k).kind = 0 := by simp [St.setDe, upd_same, noDe]
  have hfr : (S.setDe k noDe).free = some k := free_some _ k hk (fun i hi => by simp only [St.setDe, upd_other _ _ (show i ≠ k by omega)]; exact h.lo i (by omega)) hk0
  have hr : openRes (S.setDe k noDe) s 577 = k := by rw [res_of h1 h2 hz (.inl rfl), hfr]
  rw [hc]
  refine ⟨by unfold closeRes; rw [hat, if_neg (h.lo k hk)], by unfold closeRes; rw [hat, if_pos hk0], by unfold St.close; rw [hat, if_pos hk0], hr, ?_⟩
  unfold openSt
  rw [hr, if_neg (by omega), if_neg (by omega), Int.toNat_natCast]
  rw [res_of h1 h2 hz (.inr ⟨rfl, by simp [St.openW, St.addEv, St.put]⟩), free_none]
  intro i hi
  simp only [St.openW, St.addEv, St.put, St.setDe]
  by_cases e : i = k
  · subst e; rw [upd_same]; simp
  · rw [upd_other _ _ e, upd_other _ _ e]; exact h.lo i hi

theorem wpk (c : Int) : 0 ≤ pk c 19 ∧ pk c 19 < 19 := by unfold pk; omega

set_option maxHeartbeats 4000000 in
set_option maxRecDepth 100000 in
theorem full_walk (s : ByteArray) (c : Int) (w : World) (hs : s.size ≤ 140737488355328) (hc0 : -9223372036854775808 ≤ c) (hc1 : c ≤ 9223372036854775807) : Calls Try.prog 8 #[.string s, .int .i64 c] w fun e w' => e = .returned (.bool true) ∧ Tn No w w' := by
  have hnew := own_new ⟨#[]⟩ w w (Tn.refl _ _) (by unfold maxLen; decide)
  have hml : s.size ≤ maxLen := by unfold maxLen; omega
  have HN := hid hnew
  have HK := hid known_raw
  obtain ⟨f0, hf0⟩ : ∃ f0, openRes (initSt (fun _ => none) ⟨#[]⟩) s 577 = f0 := ⟨_, rfl⟩
  have ho1 : ∀ p u, Own w u p 0 (initSt (fun _ => none) ⟨#[]⟩) → Calls Try.prog 21 #[.pointer (some ⟨p, 0, none⟩), .string s, .int .i64 577] u fun e u' => e = .returned (.int .i64 f0) ∧ Own w u' p 2 (openSt (initSt (fun _ => none) ⟨#[]⟩) s 577) := fun p u h => by
    have := own_open h s 577 hml (by omega)
    rw [hf0] at this
    exact this
  have HO1 := hid ho1
  clear hnew ho1
  by_cases h0 : f0 < 0
  · have hlow := fp_low s (by rw [hf0]; exact h0)
    rw [hf0] at hlow
    clear hf0 hml hs hc0 hc1 h0
    rcases hlow with rfl | rfl | rfl
    all_goals
      go_enter Try.func8, Try.ntmps8
      go_wp2_with (first
        | (go_at_call 9; refine HN.out.mono ?_; rintro e w1 ⟨p, rfl, h1, t1⟩)
        | (go_at_call 11; refine (HK.out _).mono ?_; rintro e w2 ⟨rfl, t2⟩)
        | (go_at_call 21; refine (HO1.out _ _ (h1.no t2)).mono ?_; rintro e w3 ⟨rfl, h3⟩))
      go_ret
      exact ⟨rfl, h3.tn⟩
  · obtain ⟨h1, h2, hz, hr, hfp⟩ := fp_first s (by rw [hf0]; exact h0)
    rw [hf0] at hr
    subst hr
    obtain ⟨S4, hS4⟩ : ∃ S4, openSt (initSt (fun _ => none) ⟨#[]⟩) s 577 = S4 := ⟨_, rfl⟩
    rw [hS4] at hfp HO1
    have HFP := hid hfp
    obtain ⟨hk0, hk1⟩ := wpk c
    have HPK := hid (fun u => pick_raw c 19 u hc0 hc1 (by omega) (by omega))
    obtain ⟨k, hk⟩ : ∃ k : Nat, pk c 19 = (k : Int) := ⟨(pk c 19).toNat, by omega⟩
    rw [hk] at HPK hk1
    have hk19 : k < 19 := by omega
    have H1 := hid (And.intro h1 (And.intro h2 hz))
    have HML := hid hml
    clear hf0 hml hs hc0 hc1 h0 h1 h2 hz hfp hS4 hk hk0
    go_enter Try.func8, Try.ntmps8
    go_wp2_with (first
      | (go_at_call 9; refine HN.out.mono ?_; rintro e w1 ⟨p, rfl, h1, t1⟩)
      | (go_at_call 11; refine (HK.out _).mono ?_; rintro e w2 ⟨rfl, t2⟩)
      | (go_at_call 21; refine (HO1.out _ _ (h1.no t2)).mono ?_; rintro e w3 ⟨rfl, h3⟩))
    go_loopw [7] (fun i u => ∃ (n : Nat) (S : St), 4 ≤ n ∧ n ≤ 19 ∧ i = .int .i64 (n : Int) ∧ FP S s n ∧ Own w u p (2 * n) S) (fun i _ => 19 - (intOf i).toNat)
    case atStart => exact ⟨4, S4, by omega, by omega, rfl, HFP.out, h3.mono (by omega)⟩
    case round =>
      obtain ⟨n, S, hn4, hn, rfl, hfp, ho⟩ := hrel
      by_cases hlt : n < 19
      · obtain ⟨hr, hfp'⟩ := fp_open hfp hlt H1.out.1 H1.out.2.1 H1.out.2.2
        have hop := own_open ho s 0 HML.out (by omega)
        rw [hr] at hop
        have HOP := hid hop
        have HF' := hid hfp'
        have hlt2 : (n : Int) < 19 := by omega
        clear hop hfp' hfp ho hr
        go_wp2_with (go_at_call 21; refine HOP.out.mono ?_; rintro e w4 ⟨rfl, h4⟩)
        go_roundw
        case rel => exact ⟨n + 1, _, by omega, by omega, by go_num, HF'.out, h4.mono (by omega)⟩
        case measure => simp [intOf]; omega
      · obtain rfl : n = 19 := by omega
        obtain ⟨hr, hst⟩ := fp_full hfp H1.out.1 H1.out.2.1 H1.out.2.2
        obtain ⟨a1, a2, a3, a4, a5⟩ := fp_again hfp H1.out.1 H1.out.2.1 H1.out.2.2 k hk19
        have hopen : ∀ u, Own w u p 38 S → Calls Try.prog 21 #[.pointer (some ⟨p, 0, none⟩), .string s, .int .i64 0] u fun e u' => e = .returned (.int .i64 (-24)) ∧ Own w u' p 40 S := fun u h => by
          have := own_open h s 0 HML.out (by omega)
          rw [hr, hst] at this
          exact this
        have hcl1 : ∀ u, Own w u p 40 S → Calls Try.prog 23 #[.pointer (some ⟨p, 0, none⟩), .int .i64 (k : Int)] u fun e u' => e = .returned (.int .i64 0) ∧ Own w u' p 40 (S.close (k : Int)) := fun u h => by
          have := own_close h (k : Int) (by omega) (by omega)
          rw [a1] at this
          exact this
        have hcl2 : ∀ u, Own w u p 40 (S.close (k : Int)) → Calls Try.prog 23 #[.pointer (some ⟨p, 0, none⟩), .int .i64 (k : Int)] u fun e u' => e = .returned (.int .i64 (-9)) ∧ Own w u' p 40 (S.close (k : Int)) := fun u h => by
          have := own_close h (k : Int) (by omega) (by omega)
          rw [a2, a3] at this
          exact this
        have hop2 : ∀ u, Own w u p 40 (S.close (k : Int)) → Calls Try.prog 21 #[.pointer (some ⟨p, 0, none⟩), .string s, .int .i64 577] u fun e u' => e = .returned (.int .i64 (k : Int)) ∧ Own w u' p 42 (openSt (S.close (k : Int)) s 577) := fun u h => by
          have := own_open h s 577 HML.out (by omega)
          rw [a4] at this
          exact this
        have hop3 : ∀ u, Own w u p 42 (openSt (S.close (k : Int)) s 577) → Calls Try.prog 21 #[.pointer (some ⟨p, 0, none⟩), .string s, .int .i64 0] u fun e u' => e = .returned (.int .i64 (-24)) ∧ Tn No w u' := fun u h => by
          have := own_open h s 0 HML.out (by omega)
          rw [a5] at this
          exact this.mono (fun e u' ⟨x, y⟩ => ⟨x, y.tn⟩)
        have HA := hid hopen
        have HB := hid hcl1
        have HC := hid hcl2
        have HD := hid hop2
        have HE := hid hop3
        have HOW := hid ho
        clear hopen hcl1 hcl2 hop2 hop3 hr hst a1 a2 a3 a4 a5 hfp ho
        go_wp2_with (first
          | (go_at_call 16; refine (HPK.out _).mono ?_; rintro e w5 ⟨rfl, rfl⟩)
          | (go_at_call_of 21 (Value.int IntKind.i64 577); refine (HD.out _ h8).mono ?_; rintro e w9 ⟨rfl, h9⟩)
          | (go_at_call 21; refine (HE.out _ h9).mono ?_; rintro e w10 ⟨rfl, t10⟩)
          | (go_at_call 21; refine (HA.out _ HOW.out).mono ?_; rintro e w6 ⟨rfl, h6⟩)
          | (go_at_call 23; refine (HC.out _ h7).mono ?_; rintro e w8 ⟨rfl, h8⟩)
          | (go_at_call 23; refine (HB.out _ h6).mono ?_; rintro e w7 ⟨rfl, h7⟩))
        go_ret
        exact ⟨by first | rfl | simp, t10⟩
end Go.Proofs.Ytkbdgdcicflocaa
namespace Go.Proofs.Ytkbdgdcicflocaa
set_option linter.unusedSimpArgs false
set_option linter.unusedVariables false
open Go.RowKit
attribute [local go_sem ↓] Go.wp_at_zero Go.wp_at_succ

/-- the texts of all events of a kind -/
def tell (tr : List Ev) (k : Int) : List UInt8 := (tr.filter (fun e => e.kind == k)).flatMap (fun e => e.text)
theorem tell_nil (k : Int) : tell [] k = [] := rfl
theorem tell_snoc (tr : List Ev) (e : Ev) (k : Int) : tell (tr ++ [e]) k = tell tr k ++ (if e.kind = k then e.text else []) := by
  unfold tell
  rw [List.filter_append, List.flatMap_append]
  congr 1
  by_cases h : e.kind = k
  · simp [h]
  · simp [h]
theorem tell_le (tr : List Ev) (k : Int) (M : Nat) (h : (tr.map (fun e => e.text.length)).sum ≤ M) : (tell tr k).length ≤ M := by
  induction tr generalizing M with
  | nil => simp [tell]
  | cons e r ih =>
    simp only [List.map_cons, List.sum_cons] at h
    have := ih (M - e.text.length) (by omega)
    unfold tell at this ⊢
    by_cases hk : e.kind = k
    · simp only [List.filter_cons, hk, beq_self_eq_true, if_true, List.flatMap_cons, List.length_append]
      omega
    · have : (e.kind == k) = false := by simpa using hk
      simp only [List.filter_cons, this, Bool.false_eq_true, if_false]
      omega
theorem str_append (a b : List UInt8) : str a ++ str b = str (a ++ b) := by
  unfold str
  rw [ByteArray.mk_append_mk]
theorem sum_take_le (l : List Nat) (k : Nat) : (l.take k).sum ≤ l.sum := by
  induction l generalizing k with
  | nil => simp
  | cons a r ih =>
    cases k with
    | zero => simp
    | succ k => simp only [List.take_succ_cons, List.sum_cons]; have := ih k; omega

set_option maxHeartbeats 2000000 in
set_option maxRecDepth 100000 in
theorem told_raw (v : Value) (tr : List Ev) (kd : Int) (w : World) (h : TV w v tr) (hb : (tr.map (fun e => e.text.length)).sum ≤ 1099511627776) (hn : tr.length ≤ 1099511627776) :
    Calls Try.prog 20 #[v, .int .i64 kd] w fun e w' => e = .returned (.string (str (tell tr kd))) ∧ w' = w := by
  obtain ⟨a, cap, hv, hlc, hcm, hnil, hsome⟩ := h.rw.form
  obtain ⟨n, hlen⟩ : ∃ n, tr.length = n := ⟨_, rfl⟩
  rw [hlen] at hv hlc hnil hn
  have HL := hid hlen
  have HV := hid hv
  have HNIL := hid hnil
  have HSOME := hid hsome
  have HTV := hid h
  subst hv
  have hb' : ∀ k, (tell (tr.take k) kd).length ≤ 1099511627776 := fun k => tell_le _ _ _ (by
    have := sum_take_le (tr.map (fun e => e.text.length)) k
    rw [← List.map_take] at this
    omega)
  have HB := hid hb'
  have HB0 := hid hb
  clear h hlen hnil hsome hb hb' hcm hlc
  go_enter Try.func20, Try.ntmps20
  go_wp2
  go_loop [5, 6] (fun s i => ∃ k : Nat, k ≤ n ∧ i = .int .i64 k ∧ s = .string (str (tell (tr.take k) kd))) (fun _ i => n - (intOf i).toNat)
  case atStart => exact ⟨0, by omega, rfl, by simp [tell, str]⟩
  case round =>
    obtain ⟨k, hk, rfl, rfl⟩ := hrel
    by_cases hlt : k < n
    · cases a with
      | none => have := (HNIL.out rfl).1; omega
      | some x =>
      obtain ⟨hxe, hxl⟩ := HSOME.out x rfl
      obtain ⟨g, o, sp⟩ := x
      cases hxe
      obtain ⟨e, he⟩ : ∃ e, tr[k]? = some e := ⟨_, List.getElem?_eq_getElem (by have := HL.out; omega)⟩
      obtain ⟨e0, e1, e2⟩ := HTV.out.ev k e he
      rw [Nat.mul_comm 3 k] at e0 e2
      have q0 : w.cell? ⟨g, k * 3, none⟩ = some (.int .i64 e.kind) := e0
      have q2 : w.cell? ⟨g, k * 3 + 2, none⟩ = some (.string (str e.text)) := e2
      have htk : tr.take (k + 1) = tr.take k ++ [e] := by rw [List.take_add_one, he]; rfl
      have hte : e.text.length ≤ 1099511627776 := by
        have h1 := sum_take_le (tr.map (fun e => e.text.length)) (k + 1)
        rw [← List.map_take, htk, List.map_append, List.sum_append] at h1
        have := HB0.out
        simp at h1
        omega
      have hs1 : (str (tell (tr.take k) kd)).size ≤ 1099511627776 := by rw [str_size]; exact HB.out k
      have hs2 : (str e.text).size ≤ 1099511627776 := by rw [str_size]; exact hte
      have HTK := hid htk
      have hki : (k : Int) < (n : Int) := by omega
      clear e0 e1 e2 he htk hte HSOME HNIL HB HB0 HTV HV
      by_cases hd : e.kind = kd
      · have hd1 : (e.kind == kd) = true := by simpa using hd
        have HD := hid hd
        clear hd
        go_wp2
        go_round
        case rel => exact ⟨k + 1, by omega, by go_num, by rw [HTK.out, tell_snoc, if_pos HD.out, str_append]⟩
        case measure => simp [intOf]; omega
      · have hd1 : (e.kind == kd) = false := by simpa using hd
        have HD := hid hd
        clear hd
        go_wp2
        go_round
        case rel => exact ⟨k + 1, by omega, by go_num, by rw [HTK.out, tell_snoc, if_neg HD.out, List.append_nil]⟩
        case measure => simp [intOf]; omega
    · obtain rfl : k = n := by omega
      have e : tr.take k = tr := List.take_of_length_le (by have := HL.out; omega)
      rw [e]
      clear HSOME HNIL HB HB0 HTV HV
      go_wp2
      go_ret
      exact ⟨rfl, rfl⟩

/-! ### a trace of the outputs -/
/-- events of the outputs: none is empty, no two neighbours of one kind -/
structure Good (tr : List Ev) : Prop where
  ev : ∀ e ∈ tr, e.text ≠ [] ∧ e.name = noName
  nb : ∀ i e e', tr[i]? = some e → tr[i + 1]? = some e' → ¬ e'.kind = e.kind

theorem modify_last (f : Ev → Ev) (e : Ev) : ∀ r : List Ev, (r ++ [e]).modify r.length f = r ++ [f e]
  | [] => rfl
  | a :: r => by
    have := modify_last f e r
    simp only [List.cons_append, List.length_cons, List.modify_succ_cons, this]

theorem say_out {S : St} (k : Int) (t : List UInt8) (h : Good S.tr) : ∃ tr', S.say k noName t = { S with tr := tr' } ∧ Good tr' ∧ tell tr' k = tell S.tr k ++ t ∧ (∀ j, j ≠ k → tell tr' j = tell S.tr j) ∧ tr'.length ≤ S.tr.length + 1 ∧ (tr'.map (fun e => e.text.length)).sum = (S.tr.map (fun e => e.text.length)).sum + t.length := by
  by_cases h0 : t = []
  · refine ⟨S.tr, by unfold St.say; rw [if_pos h0], h, by simp [h0], fun _ _ => rfl, by omega, by simp [h0]⟩
  have hnew : (∀ e, S.tr.getLast? = some e → ¬ e.kind = k) → ∃ tr', (S.addEv ⟨k, noName, []⟩).addTx S.tr.length t = { S with tr := tr' } ∧ Good tr' ∧ tell tr' k = tell S.tr k ++ t ∧ (∀ j, j ≠ k → tell tr' j = tell S.tr j) ∧ tr'.length ≤ S.tr.length + 1 ∧ (tr'.map (fun e => e.text.length)).sum = (S.tr.map (fun e => e.text.length)).sum + t.length := by
    intro hl
    have e1 : (S.tr ++ [(⟨k, noName, []⟩ : Ev)]).modify S.tr.length (fun e => { e with text := e.text ++ t }) = S.tr ++ [⟨k, noName, t⟩] := by rw [modify_last]; rfl
    refine ⟨S.tr ++ [⟨k, noName, t⟩], ?_, ⟨fun e he => ?_, fun i e e' he he' => ?_⟩, by rw [tell_snoc, if_pos rfl], fun j hj => by rw [tell_snoc, if_neg (fun h => hj h.symm), List.append_nil], by simp, by simp⟩
    · simp only [St.addTx, St.addEv, e1]
    · rcases List.mem_append.1 he with he | he
      · exact h.ev e he
      · simp at he; subst he; exact ⟨h0, rfl⟩
    · by_cases hi : i + 1 < S.tr.length
      · rw [List.getElem?_append_left (by omega)] at he he'
        exact h.nb i e e' he he'
      · have hlt := (List.getElem?_eq_some_iff.1 he').1
        simp at hlt
        have hie : i + 1 = S.tr.length := by omega
        rw [List.getElem?_append_left (by omega)] at he
        rw [hie] at he'
        simp at he'
        subst he'
        intro hk
        apply hl e _ hk.symm
        rw [List.getLast?_eq_getElem?]
        have : S.tr.length - 1 = i := by omega
        rw [this]; exact he
  unfold St.say
  rw [if_neg h0]
  cases hl : S.tr.getLast? with
  | none => exact hnew (fun e he => by rw [hl] at he; cases he)
  | some e =>
    by_cases hk : e.kind = k ∧ e.name = noName
    · simp only [if_pos hk]
      obtain ⟨r, hr⟩ : ∃ r, S.tr = r ++ [e] := by
        have := List.getLast?_eq_some_iff.1 hl
        exact this
      have e1 : S.tr.modify (S.tr.length - 1) (fun e => { e with text := e.text ++ t }) = r ++ [{ e with text := e.text ++ t }] := by
        rw [hr]
        have hlen : (r ++ [e]).length - 1 = r.length := by simp
        rw [hlen, modify_last]
      refine ⟨r ++ [{ e with text := e.text ++ t }], by unfold St.addTx; rw [e1], ⟨fun x hx => ?_, fun i x x' hx hx' => ?_⟩, ?_, fun j hj => ?_, by rw [hr]; simp, ?_⟩
      · rcases List.mem_append.1 hx with hx | hx
        · exact h.ev x (by rw [hr]; exact List.mem_append.2 (.inl hx))
        · simp at hx; subst hx; exact ⟨by simp [h0], hk.2⟩
      · have key : ∀ (j : Nat) (y : Ev), (r ++ [{ e with text := e.text ++ t }])[j]? = some y → ∃ y0 : Ev, S.tr[j]? = some y0 ∧ y0.kind = y.kind := fun j y hy => by
          by_cases hj : j < r.length
          · rw [List.getElem?_append_left hj] at hy
            exact ⟨y, by rw [hr, List.getElem?_append_left hj]; exact hy, rfl⟩
          · have hlt := (List.getElem?_eq_some_iff.1 hy).1
            simp at hlt
            have hje : j = r.length := by omega
            subst hje
            simp at hy
            subst hy
            exact ⟨e, by rw [hr]; simp, rfl⟩
        obtain ⟨y0, a1, a2⟩ := key i x hx
        obtain ⟨y1, b1, b2⟩ := key (i + 1) x' hx'
        rw [← a2, ← b2]
        exact h.nb i y0 y1 a1 b1
      · rw [hr, tell_snoc, tell_snoc, if_pos hk.1, if_pos hk.1, List.append_assoc]
      · rw [hr, tell_snoc, tell_snoc, if_neg (fun e => hj (e.symm.trans hk.1)), if_neg (fun e => hj (e.symm.trans hk.1))]
      · rw [hr]; simp; omega
    · simp only [if_neg hk]
      refine hnew (fun e' he' => ?_)
      rw [hl] at he'
      cases he'
      have := (h.ev e (List.mem_of_getLast? hl)).2
      exact fun h => hk ⟨h, this⟩
end Go.Proofs.Ytkbdgdcicflocaa
