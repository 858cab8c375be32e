/-
  A step of both worlds: SysOpen (made by gen_does5.py).
-/
import Derived.Test.YtkbdgdcicflocaaDoesA
namespace Go.Proofs.Ytkbdgdcicflocaa
set_option linter.unusedSimpArgs false
set_option linter.unusedVariables false
open Go.RowKit
attribute [local go_sem ↓] Go.wp_at_zero Go.wp_at_succ

set_option maxHeartbeats 4000000 in
set_option maxRecDepth 100000 in
theorem does_open (u : World) (p q N : Nat) (S : St) (X : Nat → Prop) (h : PP u p q N S N S X) (hX : ¬ X u.heap.size) (x : Stp) (hx : x.ok) (hN : N + 2 ≤ 1099511627776) (hk : pk x.kind 16 = 0 ∨ pk x.kind 16 = 1 ∨ pk x.kind 16 = 2) :
    Calls Try.prog 12 #[.pointer (some ⟨p, 0, none⟩), .pointer (some ⟨q, 0, none⟩), x.val] u (DoPost u p q X (N + 2) (openSt S x.name x.flv)) := by
  have HFD := hid (fun v => flags_raw x v hx)
  obtain ⟨fv, hfv⟩ : ∃ fv, x.flv = fv := ⟨_, rfl⟩
  rw [hfv] at HFD ⊢
  obtain ⟨kd, fd, n, nm, tx⟩ := x
  have h0 := hx.k0
  have h1 := hx.k1
  have hm := hx.nm
  simp only at h0 h1 hk hm ⊢
  obtain ⟨rk, hrk⟩ : ∃ rk, pk kd 16 = rk := ⟨_, rfl⟩
  rw [hrk] at hk
  have HPK : Hid (∀ v, Calls Try.prog 16 #[.int .i64 kd, .int .i64 16] v fun e w' => e = .returned (.int .i64 rk) ∧ w' = v) := hid (fun v => by
    have := pick_raw kd 16 v h0 h1 (by omega) (by omega)
    rw [hrk] at this
    exact this)
  have HKS := hid (kept_step u kd fd n nm tx)
  obtain ⟨r, hr⟩ : ∃ r, openRes S nm fv = r := ⟨_, rfl⟩
  have HL : Hid (∀ u1 v, Tn No u u1 → Tn No u1 v → Calls Try.prog 21 #[.pointer (some ⟨p, 0, none⟩), .string nm, .int .i64 fv] v fun e u' => e = .returned (.int .i64 r) ∧ PL u1 p q X u' (N + 2) (openSt S nm fv) N S) := hid (fun u1 v t1 t => ((PL.refl (h.no t1)).no t).callL (fun L a => by have := open_raw p L N S nm fv v a hN hm; unfold OpenPost at this; rw [hr] at this; exact this))
  have HR : Hid (∀ u1 v, PL u1 p q X v (N + 2) (openSt S nm fv) N S → Calls Try.prog 34 #[.pointer (some ⟨q, 0, none⟩), .string nm, .int .i64 fv] v fun e u' => e = .returned (.int .i64 r) ∧ PL u1 p q X u' (N + 2) (openSt S nm fv) (N + 2) (openSt S nm fv)) := hid (fun u1 v t => t.callR (fun L a => by have := ropen_raw v q L N S a nm fv hm hN; unfold ROpenPost at this; rw [hr] at this; exact this))
  unfold Stp.val at HFD ⊢
  simp only at HFD ⊢
  clear h hx hr hrk hfv hN hm
  rcases hk with rfl | rfl | rfl
  all_goals
    go_enter Try.func12, Try.ntmps12
    go_wp2_with (first
      | (go_at_call 16; refine (HPK.out _).mono ?_; rintro e u1 ⟨rfl, h5⟩; obtain ⟨t1, hb, c0, c1, c2, c3, c4⟩ := HKS.out _ h5; have HT := hid t1; clear h5 t1 HKS)
      | fail)
    have HC : Hid (S5 u1 u.heap.size kd fd n nm tx) := hid ⟨c0, c1, c2, c3, c4⟩
    obtain ⟨b, hbe⟩ : ∃ b, u.heap.size = b := ⟨_, rfl⟩
    rw [hbe] at HC hb hX c0 c1 c2 c3 c4 ⊢
    clear hbe
    go_region_held3 (fun w' => w'.cell? ⟨b, 0, none⟩ = some (.int .i64 kd) ∧ w'.cell? ⟨b, 1, none⟩ = some (.int .i64 fd) ∧ w'.cell? ⟨b, 2, none⟩ = some (.int .u64 (n : Int)) ∧ w'.cell? ⟨b, 3, none⟩ = some (.string nm) ∧ w'.cell? ⟨b, 4, none⟩ = some (.string tx)) (go_keep) (first
      | (go_at_call 33; refine (HFD.out _).mono ?_; rintro e wb ⟨rfl, tb⟩; have hl8 := hl6.no tb; obtain ⟨g0, g1, g2, g3, g4⟩ := hl8.s5 hb hX HC.out)
      | (go_at_call 33; refine (HFD.out _).mono ?_; rintro e wa ⟨rfl, ta⟩; obtain ⟨a0, a1, a2, a3, a4⟩ := HC.out.no hb (((Tn.refl No u1).drew).then ta))
      | (go_at_call 21; refine (HL.out u1 _ HT.out (((Tn.refl No u1).drew).then ta)).mono ?_; rintro e w6 ⟨rfl, hl6⟩; obtain ⟨f0, f1, f2, f3, f4⟩ := hl6.s5 hb hX HC.out)
      | (go_at_call 34; refine (HR.out u1 _ hl8).mono ?_; rintro e w7 ⟨rfl, hl7⟩; obtain ⟨e0, e1, e2, e3, e4⟩ := hl7.s5 hb hX HC.out))
    go_wp2_with fail
    go_ret
    exact ⟨ret_bool (by simp), hl7.under HT.out⟩
end Go.Proofs.Ytkbdgdcicflocaa
namespace Go.Proofs.Ytkbdgdcicflocaa
set_option linter.unusedSimpArgs false
set_option linter.unusedVariables false
open Go.RowKit
attribute [local go_sem ↓] Go.wp_at_zero Go.wp_at_succ

set_option maxHeartbeats 4000000 in
set_option maxRecDepth 100000 in
theorem does_wf (u : World) (p q N : Nat) (S : St) (X : Nat → Prop) (h : PP u p q N S N S X) (hX : ¬ X u.heap.size) (x : Stp) (hx : x.ok) (hf : FT S) (hN : N + N + 2 * x.text.size + 6 ≤ 1099511627776) (hk : pk x.kind 16 = 15) :
    Calls Try.prog 12 #[.pointer (some ⟨p, 0, none⟩), .pointer (some ⟨q, 0, none⟩), x.val] u (DoPost u p q X (N + 2 * x.text.size + 4) (S.wfile x.name x.text)) := by
  obtain ⟨kd, fd, n, nm, tx⟩ := x
  have h0 := hx.k0
  have h1 := hx.k1
  have hm := hx.nm
  simp only at h0 h1 hk hm hN ⊢
  have HPK : Hid (∀ v, Calls Try.prog 16 #[.int .i64 kd, .int .i64 16] v fun e w' => e = .returned (.int .i64 15) ∧ w' = v) := hid (fun v => by
    have := pick_raw kd 16 v h0 h1 (by omega) (by omega)
    rw [hk] at this
    exact this)
  have HKS := hid (kept_step u kd fd n nm tx)
  obtain ⟨r, hr⟩ : ∃ r, decide (0 ≤ openRes S nm 577) = r := ⟨_, rfl⟩
  have HL : Hid (∀ u1 v, Tn No u u1 → Tn No u1 v → Calls Try.prog 32 #[.pointer (some ⟨p, 0, none⟩), .string nm, .string tx] v fun e u' => e = .returned (.bool r) ∧ PL u1 p q X u' (N + 2 * tx.size + 4) (S.wfile nm tx) N S) := hid (fun u1 v t1 t => ((PL.refl (h.no t1)).no t).callL (fun L a => by have := wfile_raw p L N S nm tx v a hf.wf hm hN; unfold WfPost at this; rw [hr] at this; exact this))
  have HR : Hid (∀ u1 v, PL u1 p q X v (N + 2 * tx.size + 4) (S.wfile nm tx) N S → Calls Try.prog 44 #[.pointer (some ⟨q, 0, none⟩), .string nm, .string tx] v fun e u' => e = .returned (.bool r) ∧ PL u1 p q X u' (N + 2 * tx.size + 4) (S.wfile nm tx) (N + 2 * tx.size + 4) (S.wfile nm tx)) := hid (fun u1 v t => t.callR (fun L a => by have := rwfile_raw v q L N S a hf nm tx hm (by omega); unfold RWfPost at this; rw [hr] at this; exact this))
  unfold Stp.val
  clear h hx hr hk hN hf hm
  go_enter Try.func12, Try.ntmps12
  go_wp2_with (first
    | (go_at_call 16; refine (HPK.out _).mono ?_; rintro e u1 ⟨rfl, h5⟩; obtain ⟨t1, hb, c0, c1, c2, c3, c4⟩ := HKS.out _ h5; have HT := hid t1; clear h5 t1 HKS)
    | fail)
  have HC : Hid (S5 u1 u.heap.size kd fd n nm tx) := hid ⟨c0, c1, c2, c3, c4⟩
  obtain ⟨b, hbe⟩ : ∃ b, u.heap.size = b := ⟨_, rfl⟩
  rw [hbe] at HC hb hX c0 c1 c2 c3 c4 ⊢
  clear hbe
  go_region_held3 (fun w' => w'.cell? ⟨b, 0, none⟩ = some (.int .i64 kd) ∧ w'.cell? ⟨b, 1, none⟩ = some (.int .i64 fd) ∧ w'.cell? ⟨b, 2, none⟩ = some (.int .u64 (n : Int)) ∧ w'.cell? ⟨b, 3, none⟩ = some (.string nm) ∧ w'.cell? ⟨b, 4, none⟩ = some (.string tx)) (go_keep) (first
    | (go_at_call 32; refine (HL.out u1 _ HT.out ((Tn.refl No u1).drew)).mono ?_; rintro e w6 ⟨rfl, hl6⟩; obtain ⟨f0, f1, f2, f3, f4⟩ := hl6.s5 hb hX HC.out)
    | (go_at_call 44; refine (HR.out u1 _ hl6).mono ?_; rintro e w7 ⟨rfl, hl7⟩; obtain ⟨e0, e1, e2, e3, e4⟩ := hl7.s5 hb hX HC.out))
  go_wp2_with fail
  go_ret
  exact ⟨ret_bool (by simp), hl7.under HT.out⟩
end Go.Proofs.Ytkbdgdcicflocaa
namespace Go.Proofs.Ytkbdgdcicflocaa
set_option linter.unusedSimpArgs false
set_option linter.unusedVariables false
open Go.RowKit
attribute [local go_sem ↓] Go.wp_at_zero Go.wp_at_succ

set_option maxHeartbeats 4000000 in
set_option maxRecDepth 100000 in
theorem does_read (u : World) (p q N : Nat) (S : St) (X : Nat → Prop) (h : PP u p q N S N S X) (hX : ¬ X u.heap.size) (x : Stp) (hx : x.ok) (hf : FT S) (hin : S.inp.length ≤ 9223372036854775806) (hN : N + N ≤ 1099511627776) (hk : pk x.kind 16 = 3 ∨ pk x.kind 16 = 4) :
    Calls Try.prog 12 #[.pointer (some ⟨p, 0, none⟩), .pointer (some ⟨q, 0, none⟩), x.val] u (DoPost u p q X N (S.sread x.fdv x.n)) := by
  have HFD := hid (fun v => fd_raw x v hx)
  have hfd := hx.fdv
  obtain ⟨fv, hfv⟩ : ∃ fv, x.fdv = fv := ⟨_, rfl⟩
  rw [hfv] at HFD hfd ⊢
  obtain ⟨kd, fd, n, nm, tx⟩ := x
  have h0 := hx.k0
  have h1 := hx.k1
  have hn := hx.n1
  simp only at h0 h1 hk hn ⊢
  obtain ⟨rk, hrk⟩ : ∃ rk, pk kd 16 = rk := ⟨_, rfl⟩
  rw [hrk] at hk
  have HPK : Hid (∀ v, Calls Try.prog 16 #[.int .i64 kd, .int .i64 16] v fun e w' => e = .returned (.int .i64 rk) ∧ w' = v) := hid (fun v => by
    have := pick_raw kd 16 v h0 h1 (by omega) (by omega)
    rw [hrk] at this
    exact this)
  have HKS := hid (kept_step u kd fd n nm tx)
  obtain ⟨r, hr⟩ : ∃ r, readRes S fv n = r := ⟨_, rfl⟩
  obtain ⟨tt, htt⟩ : ∃ tt, str (readTx S fv n) = tt := ⟨_, rfl⟩
  have HL : Hid (∀ u1 v, Tn No u u1 → Tn No u1 v → Calls Try.prog 24 #[.pointer (some ⟨p, 0, none⟩), .int .i64 fv, .int .u64 (n : Int)] v fun e u' => e = .returned (.tuple #[.string tt, .int .i64 r]) ∧ PL u1 p q X u' N (S.sread fv n) N S) := hid (fun u1 v t1 t => ((PL.refl (h.no t1)).no t).callL (fun L a => by have := read_raw p L N S fv n v a hfd.1 hfd.2 hN hn; unfold ReadPost at this; rw [hr, htt] at this; exact this))
  have HR : Hid (∀ u1 v, PL u1 p q X v N (S.sread fv n) N S → Calls Try.prog 36 #[.pointer (some ⟨q, 0, none⟩), .int .i64 fv, .int .u64 (n : Int)] v fun e u' => e = .returned (.tuple #[.string tt, .int .i64 r]) ∧ PL u1 p q X u' N (S.sread fv n) N (S.sread fv n)) := hid (fun u1 v t => t.callR (fun L a => by have := rread_raw v q L N S a hf fv n hfd.1 hfd.2 hn hin (by omega); unfold RReadPost at this; rw [hr, htt] at this; exact this))
  unfold Stp.val at HFD ⊢
  simp only at HFD ⊢
  have hself : (tt.toList == tt.toList) = true := beq_self_eq_true _
  clear h hx hr hrk hfv hN hf hin htt
  rcases hk with rfl | rfl
  all_goals
    go_enter Try.func12, Try.ntmps12
    go_wp2_with (first
      | (go_at_call 16; refine (HPK.out _).mono ?_; rintro e u1 ⟨rfl, h5⟩; obtain ⟨t1, hb, c0, c1, c2, c3, c4⟩ := HKS.out _ h5; have HT := hid t1; clear h5 t1 HKS)
      | fail)
    have HC : Hid (S5 u1 u.heap.size kd fd n nm tx) := hid ⟨c0, c1, c2, c3, c4⟩
    obtain ⟨b, hbe⟩ : ∃ b, u.heap.size = b := ⟨_, rfl⟩
    rw [hbe] at HC hb hX c0 c1 c2 c3 c4 ⊢
    clear hbe
    go_region_held3 (fun w' => w'.cell? ⟨b, 0, none⟩ = some (.int .i64 kd) ∧ w'.cell? ⟨b, 1, none⟩ = some (.int .i64 fd) ∧ w'.cell? ⟨b, 2, none⟩ = some (.int .u64 (n : Int)) ∧ w'.cell? ⟨b, 3, none⟩ = some (.string nm) ∧ w'.cell? ⟨b, 4, none⟩ = some (.string tx)) (go_keep) (first
      | (go_at_call 35; refine (HFD.out _).mono ?_; rintro e wa ⟨rfl, ta⟩; obtain ⟨a0, a1, a2, a3, a4⟩ := HC.out.no hb (((Tn.refl No u1).drew).then ta))
      | (go_at_call 24; refine (HL.out u1 _ HT.out (((Tn.refl No u1).drew).then ta)).mono ?_; rintro e w6 ⟨rfl, hl6⟩; obtain ⟨f0, f1, f2, f3, f4⟩ := hl6.s5 hb hX HC.out))
    go_wp2_with fail
    go_region_held3 (fun w' => w'.cell? ⟨b, 0, none⟩ = some (.int .i64 kd) ∧ w'.cell? ⟨b, 1, none⟩ = some (.int .i64 fd) ∧ w'.cell? ⟨b, 2, none⟩ = some (.int .u64 (n : Int)) ∧ w'.cell? ⟨b, 3, none⟩ = some (.string nm) ∧ w'.cell? ⟨b, 4, none⟩ = some (.string tx)) (go_keep) (first
      | (go_at_call 35; refine (HFD.out _).mono ?_; rintro e wb ⟨rfl, tb⟩; have hl8 := hl6.no (((Tn.refl No w6).drew).then tb); obtain ⟨g0, g1, g2, g3, g4⟩ := hl8.s5 hb hX HC.out)
      | (go_at_call 36; refine (HR.out u1 _ hl8).mono ?_; rintro e w7 ⟨rfl, hl7⟩; obtain ⟨e0, e1, e2, e3, e4⟩ := hl7.s5 hb hX HC.out))
    go_wp2_with fail
    go_ret
    exact ⟨ret_bool (by simp), hl7.under HT.out⟩
end Go.Proofs.Ytkbdgdcicflocaa
namespace Go.Proofs.Ytkbdgdcicflocaa
set_option linter.unusedSimpArgs false
set_option linter.unusedVariables false
open Go.RowKit
attribute [local go_sem ↓] Go.wp_at_zero Go.wp_at_succ

/-- what a step leaves -/
def doSt (S : St) (x : Stp) : St :=
  if pk x.kind 16 < 3 then openSt S x.name x.flv else if pk x.kind 16 < 5 then S.sread x.fdv x.n else if pk x.kind 16 < 8 then S.write x.fdv x.text else if pk x.kind 16 = 8 then S.close x.fdv
  else if pk x.kind 16 = 9 then S.write 1 x.text else if pk x.kind 16 = 10 then S.write 2 x.text else if pk x.kind 16 < 13 then S.read (lineLen (S.inp.drop S.rd)) else if pk x.kind 16 < 15 then S.rfile x.name else S.wfile x.name x.text

theorem ft_do {S : St} (h : FT S) (x : Stp) : FT (doSt S x) := by
  unfold doSt
  split
  · exact ft_open h _ _
  · split
    · exact ft_read h _ _
    · split
      · exact ft_write h _ _
      · split
        · exact ft_close h _
        · split
          · exact ft_write h _ _
          · split
            · exact ft_write h _ _
            · split
              · exact h
              · split
                · exact ft_rfile h _
                · exact ft_wfile h _ _

theorem inp_say (S : St) (k : Int) (nm : ByteArray) (t : List UInt8) : (S.say k nm t).inp = S.inp := by
  unfold St.say
  split
  · rfl
  · split
    · split <;> rfl
    · rfl
theorem inp_open (S : St) (s : ByteArray) (fl : Int) : (openSt S s fl).inp = S.inp := by
  unfold openSt
  split
  · rfl
  · split <;> rfl
theorem inp_close (S : St) (fd : Int) : (S.close fd).inp = S.inp := by
  unfold St.close
  split <;> rfl
theorem inp_write (S : St) (fd : Int) (s : ByteArray) : (S.write fd s).inp = S.inp := by
  unfold St.write
  split
  · exact inp_say _ _ _ _
  · split
    · exact inp_say _ _ _ _
    · split
      · exact inp_say _ _ _ _
      · rfl
theorem inp_sread (S : St) (fd : Int) (n : Nat) : (S.sread fd n).inp = S.inp := by
  unfold St.sread
  split
  · rfl
  · split <;> rfl
theorem inp_do (S : St) (x : Stp) : (doSt S x).inp = S.inp := by
  unfold doSt
  split
  · exact inp_open _ _ _
  · split
    · exact inp_sread _ _ _
    · split
      · exact inp_write _ _ _
      · split
        · exact inp_close _ _
        · split
          · exact inp_write _ _ _
          · split
            · exact inp_write _ _ _
            · split
              · rfl
              · split
                · unfold St.rfile
                  split
                  · rfl
                  · rw [inp_close, inp_open]
                · unfold St.wfile
                  split
                  · rfl
                  · rw [inp_close, inp_write, inp_open]

theorem DoPost.wide {u u' : World} {p q N M : Nat} {X : Nat → Prop} {S : St} {e : Ending} (h : DoPost u p q X N S e u') (hM : N ≤ M) : DoPost u p q X M S e u' := ⟨h.1, h.2.mono hM hM⟩

theorem does_raw (u : World) (p q N : Nat) (S : St) (X : Nat → Prop) (h : PP u p q N S N S X) (hX : ¬ X u.heap.size) (hf : FT S) (hin : S.inp.length ≤ 9223372036854775806) (x : Stp) (hx : x.ok) (hN : N + N + 2 * x.text.size + 6 ≤ 1099511627776) :
    Calls Try.prog 12 #[.pointer (some ⟨p, 0, none⟩), .pointer (some ⟨q, 0, none⟩), x.val] u (DoPost u p q X (N + 2 * x.text.size + 4) (doSt S x)) := by
  have hb : 0 ≤ pk x.kind 16 ∧ pk x.kind 16 < 16 := by unfold pk; omega
  unfold doSt
  split
  · exact (does_open u p q N S X h hX x hx (by omega) (by omega)).mono (fun _ _ k => k.wide (by omega))
  · split
    · exact (does_read u p q N S X h hX x hx hf hin (by omega) (by omega)).mono (fun _ _ k => k.wide (by omega))
    · split
      · exact (does_write u p q N S X h hX x hx hf (by omega) (by omega)).mono (fun _ _ k => k.wide (by omega))
      · split
        · exact (does_close u p q N S X h hX x hx (by omega)).mono (fun _ _ k => k.wide (by omega))
        · split
          · exact (does_out u p q N S X h hX hf x hx (by omega) (by omega)).mono (fun _ _ k => k.wide (by omega))
          · split
            · exact (does_err u p q N S X h hX hf x hx (by omega) (by omega)).mono (fun _ _ k => k.wide (by omega))
            · split
              · exact (does_line u p q N S X h hX hin x hx (by omega)).mono (fun _ _ k => k.wide (by omega))
              · split
                · exact (does_rf u p q N S X h hX x hx (by omega) (by omega)).mono (fun _ _ k => k.wide (by omega))
                · exact (does_wf u p q N S X h hX x hx hf (by omega) (by omega)).mono (fun _ _ k => k.wide (by omega))
end Go.Proofs.Ytkbdgdcicflocaa
