/-
  word: what an instruction sets its register to: words (made by gen_wvalue.py).
-/
import Derived.Test.YtoidddfpekbliaaGreatWJ23
namespace Go.Proofs.YtoidddfpekbliaaGreat
set_option linter.unusedSimpArgs false
set_option linter.unusedVariables false
open Go.RowKit
attribute [local go_sem ↓] Go.wp_at_zero Go.wp_at_succ
section
variable {p : Nat} {w : World} {cb o xb : Nat} {q : RCode} {xs : Nat → Int} {vf : Value}

set_option maxHeartbeats 4000000 in
set_option maxRecDepth 100000 in
theorem value_word3 (h : VI w cb o xb q xs) (hk : q.kind = 3) (h0 : 0 ≤ xs 1) :
    Calls Tryz.prog 83 #[.pointer (some ⟨p, 0, none⟩), vf, .pointer (some ⟨cb, o, none⟩), .pointer (some ⟨xb, 0, none⟩)] w fun e w' => e = .returned (.tuple #[.int .u64 (wordF q.kind (xs 0) (xs 1) h0), .bool (wordG q.kind (xs 0) (xs 1) h0)]) ∧ Tn No w w' := by
  have cl := h.cl
  have xl := h.xl
  have k0 := h.q.k0
  have x0 := h.x 0 (by omega)
  have x1 := h.x 1 (by omega)
  have HH := hid (wordF_raw q.kind (xs 0) (xs 1) h0)
  obtain ⟨u, hu⟩ : ∃ u, wordF q.kind (xs 0) (xs 1) h0 = u := ⟨_, rfl⟩
  obtain ⟨v, hv⟩ : ∃ v, wordG q.kind (xs 0) (xs 1) h0 = v := ⟨_, rfl⟩
  rw [hu, hv] at HH
  rw [hu, hv]
  clear hu hv
  obtain ⟨a, ha⟩ : ∃ a, xs 0 = a := ⟨_, rfl⟩
  obtain ⟨b, hb⟩ : ∃ b, xs 1 = b := ⟨_, rfl⟩
  rw [ha, hb, hk] at HH
  rw [ha] at x0
  rw [hb] at x1
  rw [hk] at k0
  clear h hk ha hb h0
  go_enter Tryz.func83, Tryz.ntmps83
  go_wp2_with fail
  go_region_held3 (fun w' => w'.cell? ⟨cb, o, none⟩ = some (.int .u8 3) ∧ w'.cell? ⟨xb, 0, none⟩ = some (.int .u64 a) ∧ w'.cell? ⟨xb, 1, none⟩ = some (.int .u64 b)) (go_keep) (first
    | (go_at_call 129; refine (HH.out _).mono ?_; rintro e w2 ⟨rfl, rfl⟩))
  go_wp2
  go_ret2
  exact ⟨rfl, (by repeat (first | exact Tn.refl _ _ | apply Tn.drew | apply Tn.drewN | apply Tn.alloc | (refine Tn.then ?_ (by assumption)) | (refine Tn.thenNo ?_ (by assumption))))⟩

set_option maxHeartbeats 4000000 in
set_option maxRecDepth 100000 in
theorem value_word4 (h : VI w cb o xb q xs) (hk : q.kind = 4) (h0 : 0 ≤ xs 1) :
    Calls Tryz.prog 83 #[.pointer (some ⟨p, 0, none⟩), vf, .pointer (some ⟨cb, o, none⟩), .pointer (some ⟨xb, 0, none⟩)] w fun e w' => e = .returned (.tuple #[.int .u64 (wordF q.kind (xs 0) (xs 1) h0), .bool (wordG q.kind (xs 0) (xs 1) h0)]) ∧ Tn No w w' := by
  have cl := h.cl
  have xl := h.xl
  have k0 := h.q.k0
  have x0 := h.x 0 (by omega)
  have x1 := h.x 1 (by omega)
  have HH := hid (wordF_raw q.kind (xs 0) (xs 1) h0)
  obtain ⟨u, hu⟩ : ∃ u, wordF q.kind (xs 0) (xs 1) h0 = u := ⟨_, rfl⟩
  obtain ⟨v, hv⟩ : ∃ v, wordG q.kind (xs 0) (xs 1) h0 = v := ⟨_, rfl⟩
  rw [hu, hv] at HH
  rw [hu, hv]
  clear hu hv
  obtain ⟨a, ha⟩ : ∃ a, xs 0 = a := ⟨_, rfl⟩
  obtain ⟨b, hb⟩ : ∃ b, xs 1 = b := ⟨_, rfl⟩
  rw [ha, hb, hk] at HH
  rw [ha] at x0
  rw [hb] at x1
  rw [hk] at k0
  clear h hk ha hb h0
  go_enter Tryz.func83, Tryz.ntmps83
  go_wp2_with fail
  go_region_held3 (fun w' => w'.cell? ⟨cb, o, none⟩ = some (.int .u8 4) ∧ w'.cell? ⟨xb, 0, none⟩ = some (.int .u64 a) ∧ w'.cell? ⟨xb, 1, none⟩ = some (.int .u64 b)) (go_keep) (first
    | (go_at_call 129; refine (HH.out _).mono ?_; rintro e w2 ⟨rfl, rfl⟩))
  go_wp2
  go_ret2
  exact ⟨rfl, (by repeat (first | exact Tn.refl _ _ | apply Tn.drew | apply Tn.drewN | apply Tn.alloc | (refine Tn.then ?_ (by assumption)) | (refine Tn.thenNo ?_ (by assumption))))⟩

set_option maxHeartbeats 4000000 in
set_option maxRecDepth 100000 in
theorem value_word5 (h : VI w cb o xb q xs) (hk : q.kind = 5) (h0 : 0 ≤ xs 1) :
    Calls Tryz.prog 83 #[.pointer (some ⟨p, 0, none⟩), vf, .pointer (some ⟨cb, o, none⟩), .pointer (some ⟨xb, 0, none⟩)] w fun e w' => e = .returned (.tuple #[.int .u64 (wordF q.kind (xs 0) (xs 1) h0), .bool (wordG q.kind (xs 0) (xs 1) h0)]) ∧ Tn No w w' := by
  have cl := h.cl
  have xl := h.xl
  have k0 := h.q.k0
  have x0 := h.x 0 (by omega)
  have x1 := h.x 1 (by omega)
  have HH := hid (wordF_raw q.kind (xs 0) (xs 1) h0)
  obtain ⟨u, hu⟩ : ∃ u, wordF q.kind (xs 0) (xs 1) h0 = u := ⟨_, rfl⟩
  obtain ⟨v, hv⟩ : ∃ v, wordG q.kind (xs 0) (xs 1) h0 = v := ⟨_, rfl⟩
  rw [hu, hv] at HH
  rw [hu, hv]
  clear hu hv
  obtain ⟨a, ha⟩ : ∃ a, xs 0 = a := ⟨_, rfl⟩
  obtain ⟨b, hb⟩ : ∃ b, xs 1 = b := ⟨_, rfl⟩
  rw [ha, hb, hk] at HH
  rw [ha] at x0
  rw [hb] at x1
  rw [hk] at k0
  clear h hk ha hb h0
  go_enter Tryz.func83, Tryz.ntmps83
  go_wp2_with fail
  go_region_held3 (fun w' => w'.cell? ⟨cb, o, none⟩ = some (.int .u8 5) ∧ w'.cell? ⟨xb, 0, none⟩ = some (.int .u64 a) ∧ w'.cell? ⟨xb, 1, none⟩ = some (.int .u64 b)) (go_keep) (first
    | (go_at_call 129; refine (HH.out _).mono ?_; rintro e w2 ⟨rfl, rfl⟩))
  go_wp2
  go_ret2
  exact ⟨rfl, (by repeat (first | exact Tn.refl _ _ | apply Tn.drew | apply Tn.drewN | apply Tn.alloc | (refine Tn.then ?_ (by assumption)) | (refine Tn.thenNo ?_ (by assumption))))⟩

set_option maxHeartbeats 4000000 in
set_option maxRecDepth 100000 in
theorem value_word6 (h : VI w cb o xb q xs) (hk : q.kind = 6) (h0 : 0 ≤ xs 1) :
    Calls Tryz.prog 83 #[.pointer (some ⟨p, 0, none⟩), vf, .pointer (some ⟨cb, o, none⟩), .pointer (some ⟨xb, 0, none⟩)] w fun e w' => e = .returned (.tuple #[.int .u64 (wordF q.kind (xs 0) (xs 1) h0), .bool (wordG q.kind (xs 0) (xs 1) h0)]) ∧ Tn No w w' := by
  have cl := h.cl
  have xl := h.xl
  have k0 := h.q.k0
  have x0 := h.x 0 (by omega)
  have x1 := h.x 1 (by omega)
  have HH := hid (wordF_raw q.kind (xs 0) (xs 1) h0)
  obtain ⟨u, hu⟩ : ∃ u, wordF q.kind (xs 0) (xs 1) h0 = u := ⟨_, rfl⟩
  obtain ⟨v, hv⟩ : ∃ v, wordG q.kind (xs 0) (xs 1) h0 = v := ⟨_, rfl⟩
  rw [hu, hv] at HH
  rw [hu, hv]
  clear hu hv
  obtain ⟨a, ha⟩ : ∃ a, xs 0 = a := ⟨_, rfl⟩
  obtain ⟨b, hb⟩ : ∃ b, xs 1 = b := ⟨_, rfl⟩
  rw [ha, hb, hk] at HH
  rw [ha] at x0
  rw [hb] at x1
  rw [hk] at k0
  clear h hk ha hb h0
  go_enter Tryz.func83, Tryz.ntmps83
  go_wp2_with fail
  go_region_held3 (fun w' => w'.cell? ⟨cb, o, none⟩ = some (.int .u8 6) ∧ w'.cell? ⟨xb, 0, none⟩ = some (.int .u64 a) ∧ w'.cell? ⟨xb, 1, none⟩ = some (.int .u64 b)) (go_keep) (first
    | (go_at_call 129; refine (HH.out _).mono ?_; rintro e w2 ⟨rfl, rfl⟩))
  go_wp2
  go_ret2
  exact ⟨rfl, (by repeat (first | exact Tn.refl _ _ | apply Tn.drew | apply Tn.drewN | apply Tn.alloc | (refine Tn.then ?_ (by assumption)) | (refine Tn.thenNo ?_ (by assumption))))⟩

set_option maxHeartbeats 4000000 in
set_option maxRecDepth 100000 in
theorem value_word7 (h : VI w cb o xb q xs) (hk : q.kind = 7) (h0 : 0 ≤ xs 1) :
    Calls Tryz.prog 83 #[.pointer (some ⟨p, 0, none⟩), vf, .pointer (some ⟨cb, o, none⟩), .pointer (some ⟨xb, 0, none⟩)] w fun e w' => e = .returned (.tuple #[.int .u64 (wordF q.kind (xs 0) (xs 1) h0), .bool (wordG q.kind (xs 0) (xs 1) h0)]) ∧ Tn No w w' := by
  have cl := h.cl
  have xl := h.xl
  have k0 := h.q.k0
  have x0 := h.x 0 (by omega)
  have x1 := h.x 1 (by omega)
  have HH := hid (wordF_raw q.kind (xs 0) (xs 1) h0)
  obtain ⟨u, hu⟩ : ∃ u, wordF q.kind (xs 0) (xs 1) h0 = u := ⟨_, rfl⟩
  obtain ⟨v, hv⟩ : ∃ v, wordG q.kind (xs 0) (xs 1) h0 = v := ⟨_, rfl⟩
  rw [hu, hv] at HH
  rw [hu, hv]
  clear hu hv
  obtain ⟨a, ha⟩ : ∃ a, xs 0 = a := ⟨_, rfl⟩
  obtain ⟨b, hb⟩ : ∃ b, xs 1 = b := ⟨_, rfl⟩
  rw [ha, hb, hk] at HH
  rw [ha] at x0
  rw [hb] at x1
  rw [hk] at k0
  clear h hk ha hb h0
  go_enter Tryz.func83, Tryz.ntmps83
  go_wp2_with fail
  go_region_held3 (fun w' => w'.cell? ⟨cb, o, none⟩ = some (.int .u8 7) ∧ w'.cell? ⟨xb, 0, none⟩ = some (.int .u64 a) ∧ w'.cell? ⟨xb, 1, none⟩ = some (.int .u64 b)) (go_keep) (first
    | (go_at_call 129; refine (HH.out _).mono ?_; rintro e w2 ⟨rfl, rfl⟩))
  go_wp2
  go_ret2
  exact ⟨rfl, (by repeat (first | exact Tn.refl _ _ | apply Tn.drew | apply Tn.drewN | apply Tn.alloc | (refine Tn.then ?_ (by assumption)) | (refine Tn.thenNo ?_ (by assumption))))⟩

set_option maxHeartbeats 4000000 in
set_option maxRecDepth 100000 in
theorem value_word8 (h : VI w cb o xb q xs) (hk : q.kind = 8) (h0 : 0 ≤ xs 1) :
    Calls Tryz.prog 83 #[.pointer (some ⟨p, 0, none⟩), vf, .pointer (some ⟨cb, o, none⟩), .pointer (some ⟨xb, 0, none⟩)] w fun e w' => e = .returned (.tuple #[.int .u64 (wordF q.kind (xs 0) (xs 1) h0), .bool (wordG q.kind (xs 0) (xs 1) h0)]) ∧ Tn No w w' := by
  have cl := h.cl
  have xl := h.xl
  have k0 := h.q.k0
  have x0 := h.x 0 (by omega)
  have x1 := h.x 1 (by omega)
  have HH := hid (wordF_raw q.kind (xs 0) (xs 1) h0)
  obtain ⟨u, hu⟩ : ∃ u, wordF q.kind (xs 0) (xs 1) h0 = u := ⟨_, rfl⟩
  obtain ⟨v, hv⟩ : ∃ v, wordG q.kind (xs 0) (xs 1) h0 = v := ⟨_, rfl⟩
  rw [hu, hv] at HH
  rw [hu, hv]
  clear hu hv
  obtain ⟨a, ha⟩ : ∃ a, xs 0 = a := ⟨_, rfl⟩
  obtain ⟨b, hb⟩ : ∃ b, xs 1 = b := ⟨_, rfl⟩
  rw [ha, hb, hk] at HH
  rw [ha] at x0
  rw [hb] at x1
  rw [hk] at k0
  clear h hk ha hb h0
  go_enter Tryz.func83, Tryz.ntmps83
  go_wp2_with fail
  go_region_held3 (fun w' => w'.cell? ⟨cb, o, none⟩ = some (.int .u8 8) ∧ w'.cell? ⟨xb, 0, none⟩ = some (.int .u64 a) ∧ w'.cell? ⟨xb, 1, none⟩ = some (.int .u64 b)) (go_keep) (first
    | (go_at_call 129; refine (HH.out _).mono ?_; rintro e w2 ⟨rfl, rfl⟩))
  go_wp2
  go_ret2
  exact ⟨rfl, (by repeat (first | exact Tn.refl _ _ | apply Tn.drew | apply Tn.drewN | apply Tn.alloc | (refine Tn.then ?_ (by assumption)) | (refine Tn.thenNo ?_ (by assumption))))⟩

set_option maxHeartbeats 4000000 in
set_option maxRecDepth 100000 in
theorem value_word9 (h : VI w cb o xb q xs) (hk : q.kind = 9) (h0 : 0 ≤ xs 1) :
    Calls Tryz.prog 83 #[.pointer (some ⟨p, 0, none⟩), vf, .pointer (some ⟨cb, o, none⟩), .pointer (some ⟨xb, 0, none⟩)] w fun e w' => e = .returned (.tuple #[.int .u64 (wordF q.kind (xs 0) (xs 1) h0), .bool (wordG q.kind (xs 0) (xs 1) h0)]) ∧ Tn No w w' := by
  have cl := h.cl
  have xl := h.xl
  have k0 := h.q.k0
  have x0 := h.x 0 (by omega)
  have x1 := h.x 1 (by omega)
  have HH := hid (wordF_raw q.kind (xs 0) (xs 1) h0)
  obtain ⟨u, hu⟩ : ∃ u, wordF q.kind (xs 0) (xs 1) h0 = u := ⟨_, rfl⟩
  obtain ⟨v, hv⟩ : ∃ v, wordG q.kind (xs 0) (xs 1) h0 = v := ⟨_, rfl⟩
  rw [hu, hv] at HH
  rw [hu, hv]
  clear hu hv
  obtain ⟨a, ha⟩ : ∃ a, xs 0 = a := ⟨_, rfl⟩
  obtain ⟨b, hb⟩ : ∃ b, xs 1 = b := ⟨_, rfl⟩
  rw [ha, hb, hk] at HH
  rw [ha] at x0
  rw [hb] at x1
  rw [hk] at k0
  clear h hk ha hb h0
  go_enter Tryz.func83, Tryz.ntmps83
  go_wp2_with fail
  go_region_held3 (fun w' => w'.cell? ⟨cb, o, none⟩ = some (.int .u8 9) ∧ w'.cell? ⟨xb, 0, none⟩ = some (.int .u64 a) ∧ w'.cell? ⟨xb, 1, none⟩ = some (.int .u64 b)) (go_keep) (first
    | (go_at_call 129; refine (HH.out _).mono ?_; rintro e w2 ⟨rfl, rfl⟩))
  go_wp2
  go_ret2
  exact ⟨rfl, (by repeat (first | exact Tn.refl _ _ | apply Tn.drew | apply Tn.drewN | apply Tn.alloc | (refine Tn.then ?_ (by assumption)) | (refine Tn.thenNo ?_ (by assumption))))⟩

set_option maxHeartbeats 4000000 in
set_option maxRecDepth 100000 in
theorem value_word10 (h : VI w cb o xb q xs) (hk : q.kind = 10) (h0 : 0 ≤ xs 1) :
    Calls Tryz.prog 83 #[.pointer (some ⟨p, 0, none⟩), vf, .pointer (some ⟨cb, o, none⟩), .pointer (some ⟨xb, 0, none⟩)] w fun e w' => e = .returned (.tuple #[.int .u64 (wordF q.kind (xs 0) (xs 1) h0), .bool (wordG q.kind (xs 0) (xs 1) h0)]) ∧ Tn No w w' := by
  have cl := h.cl
  have xl := h.xl
  have k0 := h.q.k0
  have x0 := h.x 0 (by omega)
  have x1 := h.x 1 (by omega)
  have HH := hid (wordF_raw q.kind (xs 0) (xs 1) h0)
  obtain ⟨u, hu⟩ : ∃ u, wordF q.kind (xs 0) (xs 1) h0 = u := ⟨_, rfl⟩
  obtain ⟨v, hv⟩ : ∃ v, wordG q.kind (xs 0) (xs 1) h0 = v := ⟨_, rfl⟩
  rw [hu, hv] at HH
  rw [hu, hv]
  clear hu hv
  obtain ⟨a, ha⟩ : ∃ a, xs 0 = a := ⟨_, rfl⟩
  obtain ⟨b, hb⟩ : ∃ b, xs 1 = b := ⟨_, rfl⟩
  rw [ha, hb, hk] at HH
  rw [ha] at x0
  rw [hb] at x1
  rw [hk] at k0
  clear h hk ha hb h0
  go_enter Tryz.func83, Tryz.ntmps83
  go_wp2_with fail
  go_region_held3 (fun w' => w'.cell? ⟨cb, o, none⟩ = some (.int .u8 10) ∧ w'.cell? ⟨xb, 0, none⟩ = some (.int .u64 a) ∧ w'.cell? ⟨xb, 1, none⟩ = some (.int .u64 b)) (go_keep) (first
    | (go_at_call 129; refine (HH.out _).mono ?_; rintro e w2 ⟨rfl, rfl⟩))
  go_wp2
  go_ret2
  exact ⟨rfl, (by repeat (first | exact Tn.refl _ _ | apply Tn.drew | apply Tn.drewN | apply Tn.alloc | (refine Tn.then ?_ (by assumption)) | (refine Tn.thenNo ?_ (by assumption))))⟩

set_option maxHeartbeats 4000000 in
set_option maxRecDepth 100000 in
theorem value_word11 (h : VI w cb o xb q xs) (hk : q.kind = 11) (h0 : 0 ≤ xs 1) :
    Calls Tryz.prog 83 #[.pointer (some ⟨p, 0, none⟩), vf, .pointer (some ⟨cb, o, none⟩), .pointer (some ⟨xb, 0, none⟩)] w fun e w' => e = .returned (.tuple #[.int .u64 (wordF q.kind (xs 0) (xs 1) h0), .bool (wordG q.kind (xs 0) (xs 1) h0)]) ∧ Tn No w w' := by
  have cl := h.cl
  have xl := h.xl
  have k0 := h.q.k0
  have x0 := h.x 0 (by omega)
  have x1 := h.x 1 (by omega)
  have HH := hid (wordF_raw q.kind (xs 0) (xs 1) h0)
  obtain ⟨u, hu⟩ : ∃ u, wordF q.kind (xs 0) (xs 1) h0 = u := ⟨_, rfl⟩
  obtain ⟨v, hv⟩ : ∃ v, wordG q.kind (xs 0) (xs 1) h0 = v := ⟨_, rfl⟩
  rw [hu, hv] at HH
  rw [hu, hv]
  clear hu hv
  obtain ⟨a, ha⟩ : ∃ a, xs 0 = a := ⟨_, rfl⟩
  obtain ⟨b, hb⟩ : ∃ b, xs 1 = b := ⟨_, rfl⟩
  rw [ha, hb, hk] at HH
  rw [ha] at x0
  rw [hb] at x1
  rw [hk] at k0
  clear h hk ha hb h0
  go_enter Tryz.func83, Tryz.ntmps83
  go_wp2_with fail
  go_region_held3 (fun w' => w'.cell? ⟨cb, o, none⟩ = some (.int .u8 11) ∧ w'.cell? ⟨xb, 0, none⟩ = some (.int .u64 a) ∧ w'.cell? ⟨xb, 1, none⟩ = some (.int .u64 b)) (go_keep) (first
    | (go_at_call 129; refine (HH.out _).mono ?_; rintro e w2 ⟨rfl, rfl⟩))
  go_wp2
  go_ret2
  exact ⟨rfl, (by repeat (first | exact Tn.refl _ _ | apply Tn.drew | apply Tn.drewN | apply Tn.alloc | (refine Tn.then ?_ (by assumption)) | (refine Tn.thenNo ?_ (by assumption))))⟩

set_option maxHeartbeats 4000000 in
set_option maxRecDepth 100000 in
theorem value_word12 (h : VI w cb o xb q xs) (hk : q.kind = 12) (h0 : 0 ≤ xs 1) :
    Calls Tryz.prog 83 #[.pointer (some ⟨p, 0, none⟩), vf, .pointer (some ⟨cb, o, none⟩), .pointer (some ⟨xb, 0, none⟩)] w fun e w' => e = .returned (.tuple #[.int .u64 (wordF q.kind (xs 0) (xs 1) h0), .bool (wordG q.kind (xs 0) (xs 1) h0)]) ∧ Tn No w w' := by
  have cl := h.cl
  have xl := h.xl
  have k0 := h.q.k0
  have x0 := h.x 0 (by omega)
  have x1 := h.x 1 (by omega)
  have HH := hid (wordF_raw q.kind (xs 0) (xs 1) h0)
  obtain ⟨u, hu⟩ : ∃ u, wordF q.kind (xs 0) (xs 1) h0 = u := ⟨_, rfl⟩
  obtain ⟨v, hv⟩ : ∃ v, wordG q.kind (xs 0) (xs 1) h0 = v := ⟨_, rfl⟩
  rw [hu, hv] at HH
  rw [hu, hv]
  clear hu hv
  obtain ⟨a, ha⟩ : ∃ a, xs 0 = a := ⟨_, rfl⟩
  obtain ⟨b, hb⟩ : ∃ b, xs 1 = b := ⟨_, rfl⟩
  rw [ha, hb, hk] at HH
  rw [ha] at x0
  rw [hb] at x1
  rw [hk] at k0
  clear h hk ha hb h0
  go_enter Tryz.func83, Tryz.ntmps83
  go_wp2_with fail
  go_region_held3 (fun w' => w'.cell? ⟨cb, o, none⟩ = some (.int .u8 12) ∧ w'.cell? ⟨xb, 0, none⟩ = some (.int .u64 a) ∧ w'.cell? ⟨xb, 1, none⟩ = some (.int .u64 b)) (go_keep) (first
    | (go_at_call 129; refine (HH.out _).mono ?_; rintro e w2 ⟨rfl, rfl⟩))
  go_wp2
  go_ret2
  exact ⟨rfl, (by repeat (first | exact Tn.refl _ _ | apply Tn.drew | apply Tn.drewN | apply Tn.alloc | (refine Tn.then ?_ (by assumption)) | (refine Tn.thenNo ?_ (by assumption))))⟩

set_option maxHeartbeats 4000000 in
set_option maxRecDepth 100000 in
theorem value_word13 (h : VI w cb o xb q xs) (hk : q.kind = 13) (h0 : 0 ≤ xs 1) :
    Calls Tryz.prog 83 #[.pointer (some ⟨p, 0, none⟩), vf, .pointer (some ⟨cb, o, none⟩), .pointer (some ⟨xb, 0, none⟩)] w fun e w' => e = .returned (.tuple #[.int .u64 (wordF q.kind (xs 0) (xs 1) h0), .bool (wordG q.kind (xs 0) (xs 1) h0)]) ∧ Tn No w w' := by
  have cl := h.cl
  have xl := h.xl
  have k0 := h.q.k0
  have x0 := h.x 0 (by omega)
  have x1 := h.x 1 (by omega)
  have HH := hid (wordF_raw q.kind (xs 0) (xs 1) h0)
  obtain ⟨u, hu⟩ : ∃ u, wordF q.kind (xs 0) (xs 1) h0 = u := ⟨_, rfl⟩
  obtain ⟨v, hv⟩ : ∃ v, wordG q.kind (xs 0) (xs 1) h0 = v := ⟨_, rfl⟩
  rw [hu, hv] at HH
  rw [hu, hv]
  clear hu hv
  obtain ⟨a, ha⟩ : ∃ a, xs 0 = a := ⟨_, rfl⟩
  obtain ⟨b, hb⟩ : ∃ b, xs 1 = b := ⟨_, rfl⟩
  rw [ha, hb, hk] at HH
  rw [ha] at x0
  rw [hb] at x1
  rw [hk] at k0
  clear h hk ha hb h0
  go_enter Tryz.func83, Tryz.ntmps83
  go_wp2_with fail
  go_region_held3 (fun w' => w'.cell? ⟨cb, o, none⟩ = some (.int .u8 13) ∧ w'.cell? ⟨xb, 0, none⟩ = some (.int .u64 a) ∧ w'.cell? ⟨xb, 1, none⟩ = some (.int .u64 b)) (go_keep) (first
    | (go_at_call 129; refine (HH.out _).mono ?_; rintro e w2 ⟨rfl, rfl⟩))
  go_wp2
  go_ret2
  exact ⟨rfl, (by repeat (first | exact Tn.refl _ _ | apply Tn.drew | apply Tn.drewN | apply Tn.alloc | (refine Tn.then ?_ (by assumption)) | (refine Tn.thenNo ?_ (by assumption))))⟩

set_option maxHeartbeats 4000000 in
set_option maxRecDepth 100000 in
theorem value_word14 (h : VI w cb o xb q xs) (hk : q.kind = 14) (h0 : 0 ≤ xs 1) :
    Calls Tryz.prog 83 #[.pointer (some ⟨p, 0, none⟩), vf, .pointer (some ⟨cb, o, none⟩), .pointer (some ⟨xb, 0, none⟩)] w fun e w' => e = .returned (.tuple #[.int .u64 (wordF q.kind (xs 0) (xs 1) h0), .bool (wordG q.kind (xs 0) (xs 1) h0)]) ∧ Tn No w w' := by
  have cl := h.cl
  have xl := h.xl
  have k0 := h.q.k0
  have x0 := h.x 0 (by omega)
  have x1 := h.x 1 (by omega)
  have HH := hid (wordF_raw q.kind (xs 0) (xs 1) h0)
  obtain ⟨u, hu⟩ : ∃ u, wordF q.kind (xs 0) (xs 1) h0 = u := ⟨_, rfl⟩
  obtain ⟨v, hv⟩ : ∃ v, wordG q.kind (xs 0) (xs 1) h0 = v := ⟨_, rfl⟩
  rw [hu, hv] at HH
  rw [hu, hv]
  clear hu hv
  obtain ⟨a, ha⟩ : ∃ a, xs 0 = a := ⟨_, rfl⟩
  obtain ⟨b, hb⟩ : ∃ b, xs 1 = b := ⟨_, rfl⟩
  rw [ha, hb, hk] at HH
  rw [ha] at x0
  rw [hb] at x1
  rw [hk] at k0
  clear h hk ha hb h0
  go_enter Tryz.func83, Tryz.ntmps83
  go_wp2_with fail
  go_region_held3 (fun w' => w'.cell? ⟨cb, o, none⟩ = some (.int .u8 14) ∧ w'.cell? ⟨xb, 0, none⟩ = some (.int .u64 a) ∧ w'.cell? ⟨xb, 1, none⟩ = some (.int .u64 b)) (go_keep) (first
    | (go_at_call 129; refine (HH.out _).mono ?_; rintro e w2 ⟨rfl, rfl⟩))
  go_wp2
  go_ret2
  exact ⟨rfl, (by repeat (first | exact Tn.refl _ _ | apply Tn.drew | apply Tn.drewN | apply Tn.alloc | (refine Tn.then ?_ (by assumption)) | (refine Tn.thenNo ?_ (by assumption))))⟩
end
end Go.Proofs.YtoidddfpekbliaaGreat
