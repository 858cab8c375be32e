/-
  heap's reference: words, values.
-/
import Derived.Test.YtlkbnjdhokjfnaaRCheck2
import Derived.Test.YtlkbnjdhokjfnaaHLayAll
namespace Go.Proofs.Ytlkbnjdhokjfnaa
set_option linter.unusedSimpArgs false
set_option linter.unusedVariables false
open Go.RowKit
attribute [local go_sem ↓] Go.wp_at_zero Go.wp_at_succ

set_option maxHeartbeats 2000000 in
set_option maxRecDepth 100000 in
theorem rword_raw (x : Nat) (w : World) (hx : x < 18446744073709551616) : Calls Try.prog 43 #[.int .u64 (x : Int)] w fun e w' => ∃ g c, e = .returned (.slice (some ⟨g, 0, none⟩) 8 c) ∧ Mk 1 eB w (.slice (some ⟨g, 0, none⟩) 8 c) (Hp.le 8 x) w' := by
  have HMK : Hid (Mk 1 eB w (.slice none 0 0) ([] : List UInt8) w) := hid ⟨LR.nil _ _ _, Tn.refl _ _, fun g hg => by cases hg⟩
  go_enter Try.func43, Try.ntmps43
  go_wp2_with fail
  go_loopw [0, 3, 4] (fun y v i wr => ∃ k : Nat, k ≤ 8 ∧ i = .int .i64 (k : Int) ∧ y = .int .u64 ((x / 256 ^ k : Nat) : Int) ∧ Mk 1 eB w v (Hp.le k x) wr) (fun _ _ i _ => 8 - (intOf i).toNat)
  case atStart => exact ⟨0, by omega, rfl, by simp, HMK.out⟩
  case round =>
    obtain ⟨k, hk, rfl, rfl, hmk⟩ := hrel
    clear HMK
    by_cases hlt : k < 8
    · obtain ⟨q, hq⟩ : ∃ q, x / 256 ^ k = q := ⟨_, rfl⟩
      have hqx : q < 18446744073709551616 := by rw [← hq]; exact Nat.lt_of_le_of_lt (Nat.div_le_self _ _) hx
      have hq2 : x / 256 ^ (k + 1) = q / 256 := by rw [Nat.pow_succ, ← Nat.div_div_eq_div_mul, hq]
      have hsn := le_snoc k x
      rw [hq] at hsn
      rw [hq]
      have tn1 : Tn No wr (wr.alloc (.cells #[.int .u8 ((q : Int) % 256)] 5)) := (by repeat (first | exact Tn.refl _ _ | apply Tn.drew | apply Tn.drewN | apply Tn.alloc | (refine Tn.then ?_ (by assumption)) | (refine Tn.thenNo ?_ (by assumption))))
      obtain ⟨v', w', hr, hbr', hou'⟩ := br_push (hmk.no tn1).lr.br (UInt8.ofNat (q % 256)) wr.heap.size ((q : Int) % 256) (by rw [UInt8.toNat_ofNat']; omega) (by rw [World.cell?_alloc_new]; rfl) (by simp [Hp.le_length]; omega)
      have HR := hid hr
      rw [← hsn] at hbr'
      have HREL := hid ((hmk.no tn1).step hbr'.lr hou')
      have HQ := hid hq2
      clear hr hbr' hou' hmk hsn tn1 hq hq2
      have hki : (k : Int) < 8 := by omega
      go_wp2_with (at_builtin; refine wpList_app _ rfl _ _ _ _ rfl _ _ rfl rfl v' w' HR.out ?_)
      go_roundw
      case rel => exact ⟨k + 1, by omega, by go_num, by rw [HQ.out]; go_num, HREL.out⟩
      case measure => simp [intOf]; omega
    · obtain rfl : k = 8 := by omega
      obtain ⟨g, c, e, _⟩ := hmk.lr.rw.pos (by rw [Hp.le_length]; omega)
      rw [Hp.le_length] at e
      subst e
      have HB := hid hmk
      clear hmk
      go_wp2
      go_ret
      exact ⟨_, _, rfl, HB.out⟩

theorem wrap_two (x : Int) : IntKind.u64.wrap (IntKind.i64.wrap (IntKind.i64.wrap (2 * x) + 1)) = (2 * x + 1) % 18446744073709551616 := by
  simp [IntKind.wrap, IntKind.bits, IntKind.signed]
  omega

set_option maxHeartbeats 1000000 in
set_option maxRecDepth 100000 in
theorem rValue_raw (r : Rf) (v : Value) (ps : List Int) (w : World) (hp : LD 1 eU w v ps) (hr : r.1 = 2 → 0 ≤ r.2 ∧ r.2 < ps.length) (hk : r.1 = 1 ∨ r.1 = 2) (h62 : r.1 = 1 → -4611686018427387904 ≤ r.2 ∧ r.2 < 4611686018427387904) : Calls Try.prog 44 #[.agg #[.int .i64 r.1, .int .i64 r.2], v] w fun e w' => e = .returned (.int .u64 (wordR ps r)) ∧ Tn No w w' := by
  obtain ⟨k, n⟩ := r
  simp only at hk h62
  rcases hk with rfl | rfl
  · obtain ⟨h1, h2⟩ := h62 rfl
    have e : wordR ps (1, n) = (2 * n + 1) % 18446744073709551616 := by simp [wordR]
    rw [e]
    clear hr hp e h62
    simp only
    go_enter Try.func44, Try.ntmps44
    go_wp2
    go_ret
    exact ⟨ret_int (by first | rfl | exact wrap_two n | (simp [IntKind.wrap, IntKind.bits, IntKind.signed]; done) | (simp [IntKind.wrap, IntKind.bits, IntKind.signed]; omega)), (by repeat (first | exact Tn.refl _ _ | apply Tn.drew | apply Tn.drewN | apply Tn.alloc | (refine Tn.then ?_ (by assumption)) | (refine Tn.thenNo ?_ (by assumption))))⟩
  · obtain ⟨h0, h1⟩ := hr rfl
    simp only at h0 h1
    obtain ⟨N, rfl⟩ : ∃ N : Nat, n = (N : Int) := ⟨n.toNat, by omega⟩
    obtain ⟨a, c, rfl, hc, hcm, hat⟩ := hp
    obtain ⟨g, o, rfl, hg, hcell⟩ := hat (by omega)
    have hN : N < ps.length := by omega
    have hq := hcell N hN 0 (by omega)
    rw [Nat.mul_one, Nat.add_zero] at hq
    have e : wordR ps (2, (N : Int)) = ps[N] := by simp [wordR, hN]
    rw [e]
    simp only [eU, List.getElem?_cons_zero] at hq
    clear hcell hat hr h0 h62
    simp only
    generalize ps[N] = x at *
    generalize ps.length = m at *
    have hq2 : (w.alloc (.cells #[.int .i64 2, .int .i64 (N : Int)] 61)).cell? ⟨g, o + N, none⟩ = some (.int .u64 x) := by
      rw [((Tn.refl No w).alloc _).cell hg (fun e => e)]; exact hq
    go_enter Try.func44, Try.ntmps44
    go_wp2
    go_ret
    exact ⟨rfl, (by repeat (first | exact Tn.refl _ _ | apply Tn.drew | apply Tn.drewN | apply Tn.alloc | (refine Tn.then ?_ (by assumption)) | (refine Tn.thenNo ?_ (by assumption))))⟩

/-- a word behind bytes -/
theorem Lp.word {w : World} {b : Nat} {C : Array Value} {v : Value} {L : List UInt8} {wr : World} (h : Lp w b C v L wr) (X : Nat) (x : Int) (hx : x = (X : Int)) (hX : X < 18446744073709551616) (hl : L.length ≤ 4294967000) (u : World) (t : Tn No wr u) :
    Calls Try.prog 43 #[.int .u64 x] u fun e w' => ∃ g c, e = .returned (.slice (some ⟨g, 0, none⟩) 8 c) ∧ ∃ v' w'', (Builtin.append_ #[40, 40] 40 #[v, .slice (some ⟨g, 0, none⟩) 8 c]).run Try.prog w' = .ok v' w'' ∧ Lp w b C v' (L ++ Hp.le 8 X) w'' := by
  subst hx
  refine (rword_raw X u hX).mono ?_
  rintro e w' ⟨g, c, he, hmk⟩
  refine ⟨g, c, he, ?_⟩
  have h2 := h.no (t.then hmk.tn)
  have hsrc : Src Try.prog 1 40 (.slice (some ⟨g, 0, none⟩) 8 c) (Hp.le 8 X).length (bc (Hp.le 8 X)) w' := by
    rw [Hp.le_length]
    refine Src.ofSlice _ Try.underlying40 _ 8 c _ (by rw [bc_length, Hp.le_length]) (fun j y hy => ?_) (bc_one _)
    have hj : j < 8 := by have := (List.getElem?_eq_some_iff.1 hy).1; rw [bc_length, Hp.le_length] at this; exact this
    have := hmk.lr.at' j (by rw [Hp.le_length]; exact hj) 0 (by omega)
    rw [addr_add]
    have e2 : vc w' (.slice (some ⟨g, 0, none⟩) 8 c) (j * 1 + 0) = w'.cell? ⟨g, j, none⟩ := by rw [Nat.mul_one, Nat.add_zero]; rfl
    rw [e2] at this
    rw [this, ← hy]
    simp only [eB, List.getElem?_cons_zero, bc, List.getElem?_map, List.getElem?_eq_getElem (show j < (Hp.le 8 X).length by rw [Hp.le_length]; exact hj), Option.map_some]
  obtain ⟨v', w'', hr, hbr, hg, ho⟩ := br_append (s := Hp.le 8 X) 40 h2.mkd.lr.br hsrc (by rw [Hp.le_length]; omega)
  exact ⟨v', w'', hr, h2.step hbr (Ou.of hg ho)⟩
end Go.Proofs.Ytlkbnjdhokjfnaa
