/-
  word: what an instruction sets its register to: reals, words, loads, slots (made by gen_wvalue.py).
-/
import Derived.Test.YtoidddfpekbliaaGreatWJ22
namespace Go.Proofs.YtoidddfpekbliaaGreat
set_option linter.unusedSimpArgs false
set_option linter.unusedVariables false
open Go.RowKit
attribute [local go_sem ↓] Go.wp_at_zero Go.wp_at_succ

noncomputable def wordF (k a b : Int) (h0 : 0 ≤ b) : Int := (ofWords_ex k a b h0).choose
noncomputable def wordG (k a b : Int) (h0 : 0 ≤ b) : Bool := ((ofWords_ex k a b h0).choose_spec).choose
theorem wordF_raw (k a b : Int) (h0 : 0 ≤ b) (w : World) : Calls Tryz.prog 129 #[.int .i64 k, .int .u64 a, .int .u64 b] w fun e w' => e = .returned (.tuple #[.int .u64 (wordF k a b h0), .bool (wordG k a b h0)]) ∧ w' = w := ((ofWords_ex k a b h0).choose_spec).choose_spec.2 w
theorem wordF_ok {k a b : Int} (h0 : 0 ≤ b) (ha : U64 a) (hb : U64 b) : U64 (wordF k a b h0) := ((ofWords_ex k a b h0).choose_spec).choose_spec.1 ha hb

section
variable {p N fb pw : Nat} {R : List RFun} {strict : Bool} {X : PSt} {b cap : Nat} {vd vh : Value} {fc c : Nat → Value} {w : World} {L : Nat → Option Lb} {Lw : Nat → Option Lab} {fs : List Fr} {g : Fr}
variable {cb o xb : Nat} {q : RCode} {xs : Nat → Int} {vf : Value}

set_option maxHeartbeats 4000000 in
set_option maxRecDepth 100000 in
theorem value_real (h : VI w cb o xb q xs) (hk : q.kind = 16) (hh : q.how ≤ 255) :
    Calls Tryz.prog 83 #[.pointer (some ⟨p, 0, none⟩), vf, .pointer (some ⟨cb, o, none⟩), .pointer (some ⟨xb, 0, none⟩)] w fun e w' => e = .returned (.tuple #[.int .u64 (realF q.how (xs 0) (xs 1)), .bool true]) ∧ Tn No w w' := by
  have cl := h.cl
  have xl := h.xl
  have k0 := h.q.k0
  have k1 := h.q.k1
  have x0 := h.x 0 (by omega)
  have x1 := h.x 1 (by omega)
  rw [hk] at k0
  obtain ⟨e1, e2⟩ := u8_i64 q.how hh
  obtain ⟨u, hu⟩ : ∃ u, realF q.how (xs 0) (xs 1) = u := ⟨_, rfl⟩
  rw [hu]
  have HH : Hid (∀ wq, Tn No w wq → Calls Tryz.prog 126 #[.int .i64 q.how, .int .u64 (xs 0), .int .u64 (xs 1)] wq fun e w' => e = .returned (.int .u64 u) ∧ Tn No w w' ∧ w'.cell? ⟨cb, o + 1, none⟩ = some (.int .u8 q.how) ∧ w'.cell? ⟨xb, 0, none⟩ = some (.int .u64 (xs 0)) ∧ w'.cell? ⟨xb, 1, none⟩ = some (.int .u64 (xs 1))) := hid (fun wq t => (realF_raw q.how (xs 0) (xs 1) wq).mono (fun e w' z => ⟨by rw [z.1, hu], t.then z.2, (h.no (t.then z.2)).q.k1, (h.no (t.then z.2)).x 0 (by omega), (h.no (t.then z.2)).x 1 (by omega)⟩))
  obtain ⟨a, ha⟩ : ∃ a, xs 0 = a := ⟨_, rfl⟩
  obtain ⟨b, hb⟩ : ∃ b, xs 1 = b := ⟨_, rfl⟩
  rw [ha, hb] at HH
  rw [ha] at x0
  rw [hb] at x1
  obtain ⟨hw, hhw⟩ : ∃ hw : Int, (q.how : Int) = hw := ⟨_, rfl⟩
  rw [hhw] at HH k1 e1 e2
  clear h hu hh hk ha hb hhw
  go_enter Tryz.func83, Tryz.ntmps83
  go_wp2_with fail
  go_region_held3 (fun w' => w'.cell? ⟨cb, o + 1, none⟩ = some (.int .u8 hw) ∧ w'.cell? ⟨xb, 0, none⟩ = some (.int .u64 a) ∧ w'.cell? ⟨xb, 1, none⟩ = some (.int .u64 b)) (go_keep) (first
    | (go_at_call 126; refine (HH.out _ (by repeat (first | exact Tn.refl _ _ | apply Tn.drew | apply Tn.drewN | apply Tn.alloc | (refine Tn.then ?_ (by assumption)) | (refine Tn.thenNo ?_ (by assumption))))).mono ?_; rintro e w2 ⟨rfl, t2, y1, y2, y3⟩; have HT2 := hid t2; clear t2))
  go_wp2
  go_ret2
  exact ⟨rfl, HT2.out⟩

set_option maxHeartbeats 4000000 in
set_option maxRecDepth 100000 in
theorem value_func (h : VI w cb o xb q xs) (hk : q.kind = 28) (ht : 0 ≤ q.to_ ∧ q.to_ ≤ 2147483647) :
    Calls Tryz.prog 83 #[.pointer (some ⟨p, 0, none⟩), vf, .pointer (some ⟨cb, o, none⟩), .pointer (some ⟨xb, 0, none⟩)] w fun e w' => e = .returned (.tuple #[.int .u64 (addrF q.to_), .bool true]) ∧ w' = w := by
  have cl := h.cl
  have k0 := h.q.k0
  have k4 := h.q.k4
  rw [hk] at k0
  have e2 : wrap64 q.to_ = q.to_ := by unfold wrap64; omega
  have e1 : IntKind.i64.wrap q.to_ = q.to_ := by rw [wrapi_eq]; exact e2
  have HH := hid (addrF_raw q.to_)
  obtain ⟨u, hu⟩ : ∃ u, addrF q.to_ = u := ⟨_, rfl⟩
  rw [hu] at HH
  rw [hu]
  clear h hu hk ht
  go_enter Tryz.func83, Tryz.ntmps83
  go_wp2_with (go_at_call 127; refine (HH.out _).mono ?_; rintro e w2 ⟨rfl, rfl⟩)
  go_ret2
  exact ⟨rfl, rfl⟩

set_option maxHeartbeats 4000000 in
set_option maxRecDepth 100000 in
theorem value_load (hp : PR p N fb pw R strict X b cap vd vh fc c w L Lw) (h : VI w cb o xb q xs) (hk : q.kind = 17) (hh : q.how = 1 ∨ q.how = 4 ∨ q.how = 8) :
    Calls Tryz.prog 83 #[.pointer (some ⟨p, 0, none⟩), vf, .pointer (some ⟨cb, o, none⟩), .pointer (some ⟨xb, 0, none⟩)] w fun e w' => e = .returned (.tuple #[.int .u64 ((X.M.load (IntKind.u64.wrap (xs 0 + q.imm)) q.how).getD 0), .bool (X.M.load (IntKind.u64.wrap (xs 0 + q.imm)) q.how).isSome]) ∧ Tn No w w' := by
  have plt := hp.ox.bx.pc.lt
  have cl := h.cl
  have xl := h.xl
  have k0 := h.q.k0
  have k1 := h.q.k1
  have k5 := h.q.k5
  have x0 := h.x 0 (by omega)
  rw [hk] at k0
  obtain ⟨e1, e2⟩ := u8_i64 q.how (by omega)
  have HH : Hid (∀ wq, Tn No w wq → Calls Tryz.prog 57 #[.pointer (some ⟨p, 1, none⟩), .int .u64 (IntKind.u64.wrap (xs 0 + q.imm)), .int .i64 q.how] wq fun e w' => e = .returned (.tuple #[.int .u64 ((X.M.load (IntKind.u64.wrap (xs 0 + q.imm)) q.how).getD 0), .bool (X.M.load (IntKind.u64.wrap (xs 0 + q.imm)) q.how).isSome]) ∧ w' = wq) := hid (fun wq t => mload_raw (hp.no t).mb _ _ (by omega))
  obtain ⟨u, hu⟩ : ∃ u, X.M.load (IntKind.u64.wrap (xs 0 + q.imm)) q.how = u := ⟨_, rfl⟩
  rw [hu] at HH
  rw [hu]
  obtain ⟨a, ha⟩ : ∃ a, xs 0 = a := ⟨_, rfl⟩
  rw [ha] at HH x0
  obtain ⟨hw, hhw⟩ : ∃ hw : Int, (q.how : Int) = hw := ⟨_, rfl⟩
  rw [hhw] at HH k1 e1 e2
  obtain ⟨im, him⟩ : ∃ im : Int, q.imm = im := ⟨_, rfl⟩
  rw [him] at HH k5
  obtain ⟨u1, hu1⟩ : ∃ u1, u.getD 0 = u1 := ⟨_, rfl⟩
  obtain ⟨u2, hu2⟩ : ∃ u2, u.isSome = u2 := ⟨_, rfl⟩
  rw [hu1, hu2] at HH
  rw [hu1, hu2]
  clear h hp hu hh hk ha hhw him hu1 hu2
  go_enter Tryz.func83, Tryz.ntmps83
  go_wp2_with fail
  go_region_held3 (fun w' => w'.cell? ⟨cb, o + 1, none⟩ = some (.int .u8 hw) ∧ w'.cell? ⟨cb, o + 5, none⟩ = some (.int .u64 im) ∧ w'.cell? ⟨xb, 0, none⟩ = some (.int .u64 a)) (go_keep) (first
    | (go_at_call 57; refine (HH.out _ (by repeat (first | exact Tn.refl _ _ | apply Tn.drew | apply Tn.drewN | apply Tn.alloc | (refine Tn.then ?_ (by assumption)) | (refine Tn.thenNo ?_ (by assumption))))).mono ?_; rintro e w2 ⟨rfl, rfl⟩))
  go_wp2
  go_ret2
  exact ⟨rfl, (by repeat (first | exact Tn.refl _ _ | apply Tn.drew | apply Tn.drewN | apply Tn.alloc | (refine Tn.then ?_ (by assumption)) | (refine Tn.thenNo ?_ (by assumption))))⟩
end
end Go.Proofs.YtoidddfpekbliaaGreat
namespace Go.Proofs.YtoidddfpekbliaaGreat
set_option linter.unusedSimpArgs false
set_option linter.unusedVariables false
open Go.RowKit
attribute [local go_sem ↓] Go.wp_at_zero Go.wp_at_succ

section
variable {p N fb pw : Nat} {R : List RFun} {strict : Bool} {X : PSt} {b cap : Nat} {vd vh : Value} {fc c : Nat → Value} {w : World} {L : Nat → Option Lb} {Lw : Nat → Option Lab} {fs : List Fr} {g : Fr}
variable {cb o xb : Nat} {q : RCode} {xs : Nat → Int} {vf : Value}

/-- the code and what was read stay -/
theorem VI.pq {M : Nat} {X' : PSt} {w' : World} (h : VI w cb o xb q xs) (hlc : L cb = some .prog) (hlx : L xb = none ∧ Lw xb = none) (hp : PQ b cap vd vh p M fb pw R strict X' w L Lw w') : VI w' cb o xb q xs := by
  obtain ⟨L', Lw', fc', c', g1, g2, g3, g4⟩ := hp
  have hx := g2.block xb h.xl (by rintro (e | e); exact e hlx.1; exact e hlx.2)
  exact ⟨Nat.lt_of_lt_of_le h.cl g2.size, h.q.kept (g4 cb hlc).1, Nat.lt_of_lt_of_le h.xl g2.size, fun i hi => by rw [World.cell?_of_block (w := w) (a := ⟨xb, i, none⟩) hx]; exact h.x i hi⟩

set_option maxHeartbeats 4000000 in
set_option maxRecDepth 100000 in
theorem value_sys {K : Nat} (hp : PR p N fb pw R strict X b cap vd vh fc c w L Lw) (h : VI w cb o xb q xs) (hk : q.kind = 30) (hlc : L cb = some .prog) (hlx : L xb = none ∧ Lw xb = none) (n : Nat) (h2 : xs 2 = (n : Int)) (hw : WF X.S) (hN : N ≤ 545460846592) (hx : 0 ≤ xs 0 ∧ xs 0 ≤ 18446744073709551615) (hn : n ≤ 18446744073709551615) (hNK : N + 2 ≤ K) (hK : n ≤ 2147483648 → X.M.there (xs 1) n = true → N + 2 * n + 4 ≤ K) :
    Calls Tryz.prog 83 #[.pointer (some ⟨p, 0, none⟩), vf, .pointer (some ⟨cb, o, none⟩), .pointer (some ⟨xb, 0, none⟩)] w fun e w' => e = .returned (.tuple #[.int .u64 (X.system q.imm (xs 0) (xs 1) n).1, .bool (X.system q.imm (xs 0) (xs 1) n).2.1]) ∧ PQ b cap vd vh p K fb pw R strict (X.system q.imm (xs 0) (xs 1) n).2.2 w L Lw w' := by
  have cl := h.cl
  have xl := h.xl
  have k0 := h.q.k0
  have k5 := h.q.k5
  have x0 := h.x 0 (by omega)
  have x1 := h.x 1 (by omega)
  have x2 := h.x 2 (by omega)
  rw [hk] at k0
  rw [h2] at x2
  have HH : Hid (∀ wq, Tn No w wq → Calls Tryz.prog 128 #[.pointer (some ⟨p, 0, none⟩), .int .u64 q.imm, .int .u64 (xs 0), .int .u64 (xs 1), .int .u64 (n : Int)] wq fun e w' => e = .returned (.tuple #[.int .u64 (X.system q.imm (xs 0) (xs 1) n).1, .bool (X.system q.imm (xs 0) (xs 1) n).2.1]) ∧ PQ b cap vd vh p K fb pw R strict (X.system q.imm (xs 0) (xs 1) n).2.2 w L Lw w' ∧ w'.cell? ⟨cb, o + 5, none⟩ = some (.int .u64 q.imm) ∧ w'.cell? ⟨xb, 0, none⟩ = some (.int .u64 (xs 0)) ∧ w'.cell? ⟨xb, 1, none⟩ = some (.int .u64 (xs 1)) ∧ w'.cell? ⟨xb, 2, none⟩ = some (.int .u64 (n : Int))) := hid (fun wq t => (system_raw (K := K) (hp.no t) q.imm (xs 0) (xs 1) n hw hN hx hn hNK hK).mono (fun e w' z => by
    have hq := z.2.trans t.any (fun k _ a b => ⟨a, b⟩) (fun k e => ⟨t.block k (hp.lt k (by rw [e]; simp)) (fun e => e), e⟩)
    have hv := h.pq hlc hlx hq
    exact ⟨z.1, hq, hv.q.k5, hv.x 0 (by omega), hv.x 1 (by omega), by rw [hv.x 2 (by omega), h2]⟩))
  obtain ⟨r, hr⟩ : ∃ r, X.system q.imm (xs 0) (xs 1) n = r := ⟨_, rfl⟩
  rw [hr] at HH
  rw [hr]
  obtain ⟨a, ha⟩ : ∃ a, xs 0 = a := ⟨_, rfl⟩
  obtain ⟨y, hy⟩ : ∃ y, xs 1 = y := ⟨_, rfl⟩
  rw [ha, hy] at HH
  rw [ha] at x0
  rw [hy] at x1
  obtain ⟨im, him⟩ : ∃ im : Int, q.imm = im := ⟨_, rfl⟩
  rw [him] at HH k5
  clear h hp hr hk ha hy him hK hx h2 hw hlc hlx
  go_enter Tryz.func83, Tryz.ntmps83
  go_wp2_with fail
  go_region_held3 (fun w' => w'.cell? ⟨cb, o + 5, none⟩ = some (.int .u64 im) ∧ w'.cell? ⟨xb, 0, none⟩ = some (.int .u64 a) ∧ w'.cell? ⟨xb, 1, none⟩ = some (.int .u64 y) ∧ w'.cell? ⟨xb, 2, none⟩ = some (.int .u64 (n : Int))) (go_keep) (first
    | (go_at_call 128; refine (HH.out _ (by repeat (first | exact Tn.refl _ _ | apply Tn.drew | apply Tn.drewN | apply Tn.alloc | (refine Tn.then ?_ (by assumption)) | (refine Tn.thenNo ?_ (by assumption))))).mono ?_; rintro e w2 ⟨rfl, hq2, y1, y2, y3, y4⟩; have HP2 := hid hq2; clear hq2))
  go_wp2
  go_ret2
  exact ⟨rfl, HP2.out⟩
end
end Go.Proofs.YtoidddfpekbliaaGreat
namespace Go.Proofs.YtoidddfpekbliaaGreat
set_option linter.unusedSimpArgs false
set_option linter.unusedVariables false
open Go.RowKit
attribute [local go_sem ↓] Go.wp_at_zero Go.wp_at_succ

section
variable {p N fb pw : Nat} {R : List RFun} {strict : Bool} {X : PSt} {b cap : Nat} {vd vh : Value} {fc c : Nat → Value} {w : World} {L : Nat → Option Lb} {Lw : Nat → Option Lab} {fs : List Fr} {g : Fr}
variable {cb o xb : Nat} {q : RCode} {xs : Nat → Int} {vf : Value}

set_option maxHeartbeats 4000000 in
set_option maxRecDepth 100000 in
theorem value_get (hp : PR p N fb pw R strict X b cap vd vh fc c w L Lw) (hf : X.fs = fs ++ [g]) (h : VI w cb o xb q xs) (hk : q.kind = 31) (i : Nat) (hi : q.imm = (i : Int)) (hi2 : i < 18446744073709551616) :
    Calls Tryz.prog 83 #[.pointer (some ⟨p, 0, none⟩), .pointer (some ⟨b, fs.length * 8, none⟩), .pointer (some ⟨cb, o, none⟩), .pointer (some ⟨xb, 0, none⟩)] w fun e w' => e = .returned (.tuple #[.int .u64 ((g.slots i).getD 0), .bool (g.slots i).isSome]) ∧ Tn No w w' := by
  have cl := h.cl
  have k0 := h.q.k0
  have k5 := h.q.k5
  rw [hk] at k0
  rw [hi] at k5
  have hlen := hp.ox.len
  rw [hf] at hlen
  simp only [List.length_append, List.length_cons, List.length_nil] at hlen
  have HH : Hid (∀ wq, Tn No w wq → Calls Tryz.prog 78 #[.pointer (some ⟨b, fs.length * 8 + 5, none⟩), .int .u64 (i : Int)] wq fun e w' => e = .returned (.tuple #[.int .u64 ((g.slots i).getD 0), .bool (g.slots i).isSome]) ∧ w' = wq) := hid (fun wq t => by
    have hg := get_bx (hp.no t).ox.bx fs.length true (by omega) i hi2
    rw [hf, bankOf_last] at hg
    have e : bo fs.length true = fs.length * 8 + 5 := by unfold bo; simp; omega
    rw [e] at hg
    exact hg)
  have bl : b < w.heap.size := hp.ox.bx.fb.lt
  obtain ⟨u1, hu1⟩ : ∃ u1, (g.slots i).getD 0 = u1 := ⟨_, rfl⟩
  obtain ⟨u2, hu2⟩ : ∃ u2, (g.slots i).isSome = u2 := ⟨_, rfl⟩
  rw [hu1, hu2] at HH
  rw [hu1, hu2]
  clear h hp hk hi hu1 hu2 hf hlen
  go_enter Tryz.func83, Tryz.ntmps83
  go_wp2_with fail
  go_region_held3 (fun w' => w'.cell? ⟨cb, o + 5, none⟩ = some (.int .u64 (i : Int))) (go_keep) (first
    | (go_at_call 78; refine (HH.out _ (by repeat (first | exact Tn.refl _ _ | apply Tn.drew | apply Tn.drewN | apply Tn.alloc | (refine Tn.then ?_ (by assumption)) | (refine Tn.thenNo ?_ (by assumption))))).mono ?_; rintro e w2 ⟨rfl, rfl⟩))
  go_wp2
  go_ret2
  exact ⟨rfl, (by repeat (first | exact Tn.refl _ _ | apply Tn.drew | apply Tn.drewN | apply Tn.alloc | (refine Tn.then ?_ (by assumption)) | (refine Tn.thenNo ?_ (by assumption))))⟩
end
end Go.Proofs.YtoidddfpekbliaaGreat
