/-
  The law LexJoins, walked.
-/
import Derived.Test.YtcmhfeeocehlaaaGreatDoorTokA
import Derived.Test.YtcmhfeeocehlaaaGreatDoorSimA
namespace Go.Proofs.YtcmhfeeocehlaaaGreatDoor
set_option linter.unusedSimpArgs false
set_option linter.unusedVariables false
open Go.RowKit Go.PlainAid
attribute [local go_sem ↓] Go.wp_at_zero Go.wp_at_succ

/-- the code that is answered beside the words -/
def Ls.code : Ls → Int
  | .bad c _ => c
  | .ok _ => 0
theorem lexW_code {rb : ByteArray → Int} {s : ByteArray} (h : (lexW rb s).code = 0) : ∃ x, lexW rb s = .ok x ∧ s.size ≤ 65536 := by
  by_cases hl : 65536 < s.size
  · rw [lexW_long rb s hl] at h
    exact absurd h (by decide)
  cases hx : lexW rb s with
  | ok x => exact ⟨x, rfl, by omega⟩
  | bad c p =>
    rw [hx] at h
    exfalso
    have : ∀ n k ts c p, s.size - k ≤ n → k ≤ s.size → al rb s k ts = .bad c p → ¬ c = 0 := by
      intro n
      induction n with
      | zero =>
        intro k ts c p hn hk ha
        obtain rfl : k = s.size := by omega
        rw [al_end hk (bl_end (Nat.le_refl _))] at ha
        cases ha
      | succ n ih =>
        intro k ts c p hn hk ha
        cases hb : bl s k with
        | none => rw [al_none hk hb] at ha; cases ha; decide
        | some a =>
          have hab := bl_bound hk hb
          by_cases he : a = s.size
          · subst he; rw [al_end hk hb] at ha; cases ha
          · cases hw : wordW rb s a with
            | bad c' p' =>
              rw [al_bad hk hb he hw] at ha
              cases ha
              exact word_code hw
            | ok t e =>
              rw [al_ok hk hb he hw] at ha
              have := word_gt (by omega) hw
              exact ih e (ts ++ [t]) c p (by omega) this.2 ha
    rw [lexW_al rb s hl] at hx
    exact this _ 0 [] c p (Nat.le_refl _) (Nat.zero_le _) hx h
theorem tokens_weak (rb : ByteArray → Int) (s : ByteArray) (w : World) (hm : s.size ≤ 9223372036854775807) (hrb : RBs rb s w) :
    Calls Tryz.prog 8 #[.string s] w fun e w' => Tn No w w' ∧ ∃ sa sn sc p, e = .returned (.tuple #[.slice sa sn sc, msV (lexW rb s).code p]) := by
  refine (tokens_raw rb s w hm hrb).mono ?_
  rintro e w' ⟨t, h⟩
  refine ⟨t, ?_⟩
  cases hl : lexW rb s with
  | bad c p => rw [hl] at h; exact ⟨none, 0, 0, p, h⟩
  | ok x =>
    rw [hl] at h
    obtain ⟨a, c, h, _⟩ := h
    exact ⟨a, x.length, c, 0, h⟩

set_option maxHeartbeats 2000000 in
set_option maxRecDepth 100000 in
theorem joins_bad (rb : ByteArray → Int) (a b : ByteArray) (w : World) (hr : ∀ s, RBs rb s w) (ha : a.size ≤ 140737488351232) (hb : b.size ≤ 140737488351232) (hc : ¬ ((lexW rb a).code = 0 ∧ (lexW rb b).code = 0)) :
    Calls Tryz.prog 6 #[.string a, .string b] w fun e w' => e = .returned (.bool true) ∧ Tn No w w' := by
  have z1 : (a ++ nl).size = a.size + 1 := app_size a nl
  have z2 : (a ++ nl ++ b).size = a.size + 1 + b.size := by rw [app_size, z1]
  have HA := hid (fun (w' : World) (t : Tn No w w') => tokens_weak rb a w' (by omega) ((hr a).no t))
  have HB := hid (fun (w' : World) (t : Tn No w w') => tokens_weak rb b w' (by omega) ((hr b).no t))
  have HC := hid (fun (w' : World) (t : Tn No w w') => tokens_weak rb (a ++ nl ++ b) w' (by omega) ((hr _).no t))
  have s1 : a.size + (⟨#[10]⟩ : ByteArray).size ≤ 9223372036854775807 := by show a.size + 1 ≤ _; omega
  have s2 : (a ++ (⟨#[10]⟩ : ByteArray)).size + b.size ≤ 9223372036854775807 := by show (a ++ nl).size + b.size ≤ _; omega
  obtain ⟨cc, hcc⟩ : ∃ c, (lexW rb (a ++ nl ++ b)).code = c := ⟨_, rfl⟩
  rw [hcc] at HC
  clear hcc z1 z2
  unfold nl at HC
  by_cases h1 : (lexW rb a).code = 0
  · have h2 : ¬ (lexW rb b).code = 0 := fun e => hc ⟨h1, e⟩
    rw [h1] at HA
    obtain ⟨cb, hcb⟩ : ∃ c, (lexW rb b).code = c := ⟨_, rfl⟩
    rw [hcb] at HB h2
    have hn : (cb != 0) = true := by simpa using h2
    clear hc h1 h2 hcb hr
    go_enter Tryz.func6, Tryz.ntmps6
    go_wp2_with (first
      | (go_at_call 7; refine (awake_raw _).mono ?_; rintro e w1 ⟨rfl, t1⟩)
      | (go_at_call 8; refine (HA.out _ (by repeat (first | exact Tn.refl _ _ | apply Tn.drew | apply Tn.drewN | apply Tn.alloc | (refine Tn.then ?_ (by assumption)) | (refine Tn.thenNo ?_ (by assumption))))).mono ?_; rintro e w2 ⟨t2, sa, sn, sc, pa, rfl⟩; clear HA; simp only [msV])
      | (go_at_call 8; refine (HB.out _ (by repeat (first | exact Tn.refl _ _ | apply Tn.drew | apply Tn.drewN | apply Tn.alloc | (refine Tn.then ?_ (by assumption)) | (refine Tn.thenNo ?_ (by assumption))))).mono ?_; rintro e w3 ⟨t3, sa3, sn3, sc3, pa3, rfl⟩; clear HB; simp only [msV]; obtain ⟨k3, _, z3⟩ := one_block t3; have k30 := k3 0; simp at k30; clear k3)
      | (go_at_call 8; refine (HC.out _ (by repeat (first | exact Tn.refl _ _ | apply Tn.drew | apply Tn.drewN | apply Tn.alloc | (refine Tn.then ?_ (by assumption)) | (refine Tn.thenNo ?_ (by assumption))))).mono ?_; rintro e w4 ⟨t4, sa4, sn4, sc4, pa4, rfl⟩; simp only [msV]; obtain ⟨k4, _, z4⟩ := one_block t4; have k40 := k4 0; simp at k40; have k31 := ((Tn.thenNo ((Tn.refl No w3).alloc _) t4).cell (k := w2.heap.size) (o := 0) z3 (fun e => e)).trans k30; have y4 : w3.heap.size < w4.heap.size := z4; have y3 : w2.heap.size < w4.heap.size := Nat.lt_trans z3 z4; clear k4 k30 z3 z4))
    go_ret
    exact ⟨rfl, (by repeat (first | exact Tn.refl _ _ | apply Tn.drew | apply Tn.drewN | apply Tn.alloc | (refine Tn.then ?_ (by assumption)) | (refine Tn.thenNo ?_ (by assumption))))⟩
  · obtain ⟨ca, hca⟩ : ∃ c, (lexW rb a).code = c := ⟨_, rfl⟩
    rw [hca] at HA h1
    obtain ⟨cb, hcb⟩ : ∃ c, (lexW rb b).code = c := ⟨_, rfl⟩
    rw [hcb] at HB
    have hn : (ca != 0) = true := by simpa using h1
    clear hc h1 hca hcb hr
    go_enter Tryz.func6, Tryz.ntmps6
    go_wp2_with (first
      | (go_at_call 7; refine (awake_raw _).mono ?_; rintro e w1 ⟨rfl, t1⟩)
      | (go_at_call 8; refine (HA.out _ (by repeat (first | exact Tn.refl _ _ | apply Tn.drew | apply Tn.drewN | apply Tn.alloc | (refine Tn.then ?_ (by assumption)) | (refine Tn.thenNo ?_ (by assumption))))).mono ?_; rintro e w2 ⟨t2, sa, sn, sc, pa, rfl⟩; clear HA; simp only [msV])
      | (go_at_call 8; refine (HB.out _ (by repeat (first | exact Tn.refl _ _ | apply Tn.drew | apply Tn.drewN | apply Tn.alloc | (refine Tn.then ?_ (by assumption)) | (refine Tn.thenNo ?_ (by assumption))))).mono ?_; rintro e w3 ⟨t3, sa3, sn3, sc3, pa3, rfl⟩; clear HB; simp only [msV]; obtain ⟨k3, _, z3⟩ := one_block t3; have k30 := k3 0; simp at k30; clear k3)
      | (go_at_call 8; refine (HC.out _ (by repeat (first | exact Tn.refl _ _ | apply Tn.drew | apply Tn.drewN | apply Tn.alloc | (refine Tn.then ?_ (by assumption)) | (refine Tn.thenNo ?_ (by assumption))))).mono ?_; rintro e w4 ⟨t4, sa4, sn4, sc4, pa4, rfl⟩; simp only [msV]; obtain ⟨k4, _, z4⟩ := one_block t4; have k40 := k4 0; simp at k40; have k31 := ((Tn.thenNo ((Tn.refl No w3).alloc _) t4).cell (k := w2.heap.size) (o := 0) z3 (fun e => e)).trans k30; have y4 : w3.heap.size < w4.heap.size := z4; have y3 : w2.heap.size < w4.heap.size := Nat.lt_trans z3 z4; clear k4 k30 z3 z4))
    go_ret
    exact ⟨rfl, (by repeat (first | exact Tn.refl _ _ | apply Tn.drew | apply Tn.drewN | apply Tn.alloc | (refine Tn.then ?_ (by assumption)) | (refine Tn.thenNo ?_ (by assumption))))⟩

set_option maxHeartbeats 2000000 in
set_option maxRecDepth 100000 in
theorem joins_long (rb : ByteArray → Int) (a b : ByteArray) (w : World) (hr : ∀ s, RBs rb s w) (h1 : (lexW rb a).code = 0) (h2 : (lexW rb b).code = 0) (hl : 65536 < a.size + b.size + 1) :
    Calls Tryz.prog 6 #[.string a, .string b] w fun e w' => e = .returned (.bool true) ∧ Tn No w w' := by
  obtain ⟨_, _, ha⟩ := lexW_code h1
  obtain ⟨_, _, hb⟩ := lexW_code h2
  have z1 : (a ++ nl).size = a.size + 1 := app_size a nl
  have z2 : (a ++ nl ++ b).size = a.size + 1 + b.size := by rw [app_size, z1]
  have HA := hid (fun (w' : World) (t : Tn No w w') => tokens_weak rb a w' (by omega) ((hr a).no t))
  have HB := hid (fun (w' : World) (t : Tn No w w') => tokens_weak rb b w' (by omega) ((hr b).no t))
  have HC := hid (fun (w' : World) (t : Tn No w w') => tokens_weak rb (a ++ nl ++ b) w' (by omega) ((hr _).no t))
  have s1 : a.size + (⟨#[10]⟩ : ByteArray).size ≤ 9223372036854775807 := by show a.size + 1 ≤ _; omega
  have s2 : (a ++ (⟨#[10]⟩ : ByteArray)).size + b.size ≤ 9223372036854775807 := by show (a ++ nl).size + b.size ≤ _; omega
  have hcc : (lexW rb (a ++ nl ++ b)).code = 2 := by rw [lexW_long rb _ (by omega)]; rfl
  rw [hcc] at HC
  rw [h1] at HA
  rw [h2] at HB
  have hl' : (65536 : Int) < (a.size : Int) + (b.size : Int) + 1 := by omega
  have hw1 : IntKind.i64.wrap ((a.size : Int) + (b.size : Int)) = (a.size : Int) + (b.size : Int) := by rw [IntKind.wrap_i64]; omega
  have hw2 : IntKind.i64.wrap ((a.size : Int) + (b.size : Int) + 1) = (a.size : Int) + (b.size : Int) + 1 := by rw [IntKind.wrap_i64]; omega
  clear hcc z1 z2 hr h1 h2 hl ha hb
  unfold nl at HC
  go_enter Tryz.func6, Tryz.ntmps6
  go_wp2_with (first
    | (go_at_call 7; refine (awake_raw _).mono ?_; rintro e w1 ⟨rfl, t1⟩)
    | (go_at_call 8; refine (HA.out _ (by repeat (first | exact Tn.refl _ _ | apply Tn.drew | apply Tn.drewN | apply Tn.alloc | (refine Tn.then ?_ (by assumption)) | (refine Tn.thenNo ?_ (by assumption))))).mono ?_; rintro e w2 ⟨t2, sa, sn, sc, pa, rfl⟩; clear HA; simp only [msV])
    | (go_at_call 8; refine (HB.out _ (by repeat (first | exact Tn.refl _ _ | apply Tn.drew | apply Tn.drewN | apply Tn.alloc | (refine Tn.then ?_ (by assumption)) | (refine Tn.thenNo ?_ (by assumption))))).mono ?_; rintro e w3 ⟨t3, sa3, sn3, sc3, pa3, rfl⟩; clear HB; simp only [msV]; obtain ⟨k3, _, z3⟩ := one_block t3; have k30 := k3 0; simp at k30; clear k3)
    | (go_at_call 8; refine (HC.out _ (by repeat (first | exact Tn.refl _ _ | apply Tn.drew | apply Tn.drewN | apply Tn.alloc | (refine Tn.then ?_ (by assumption)) | (refine Tn.thenNo ?_ (by assumption))))).mono ?_; rintro e w4 ⟨t4, sa4, sn4, sc4, pa4, rfl⟩; simp only [msV]; obtain ⟨k4, _, z4⟩ := one_block t4; have k40 := k4 0; simp at k40; have k31 := ((Tn.thenNo ((Tn.refl No w3).alloc _) t4).cell (k := w2.heap.size) (o := 0) z3 (fun e => e)).trans k30; have y4 : w3.heap.size < w4.heap.size := z4; have y3 : w2.heap.size < w4.heap.size := Nat.lt_trans z3 z4; clear k4 k30 z3 z4))
  go_ret
  exact ⟨rfl, (by repeat (first | exact Tn.refl _ _ | apply Tn.drew | apply Tn.drewN | apply Tn.alloc | (refine Tn.then ?_ (by assumption)) | (refine Tn.thenNo ?_ (by assumption))))⟩
end Go.Proofs.YtcmhfeeocehlaaaGreatDoor
