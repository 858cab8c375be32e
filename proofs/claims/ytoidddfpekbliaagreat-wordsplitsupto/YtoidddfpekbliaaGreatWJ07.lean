/-
  A world that the law itself made: the calls on it.
-/
import Derived.Test.YtoidddfpekbliaaGreatWJ06
import Derived.Test.YtoidddfpekbliaaGreatRows
import Derived.Test.YtoidddfpekbliaaGreatWJ03
import Derived.ProofKit
import Derived.JoinedCond
import Derived.Deep.SlicePairs
import Derived.Lib.SmallJoins
namespace Go.Proofs.YtoidddfpekbliaaGreat
set_option linter.unusedSimpArgs false
set_option linter.unusedVariables false
open Go.RowKit

/-- since w a world S was made at p: nothing old has turned -/
def Own (w u : World) (p N : Nat) (S : St) : Prop := ∃ L, PW u p L N S ∧ Tn No w u ∧ ∀ k, L k ≠ none → w.heap.size ≤ k

theorem Own.step {w u u' : World} {p N N' : Nat} {S S' : St} (h : Own w u p N S) (hs : ∀ L, PW u p L N S → Lft u p L u' N' S') : Own w u' p N' S' := by
  obtain ⟨L, hp, t, hl⟩ := h
  obtain ⟨L', hp', t', hl'⟩ := hs L hp
  refine ⟨L', hp', t.trans t' (fun _ _ e => e) (fun i hi e => absurd (hl i e) (by omega)), fun k hk => ?_⟩
  rcases Nat.lt_or_ge k u.heap.size with h1 | h1
  · exact hl k (fun e => hk (hl' k h1 e))
  · exact Nat.le_trans t.size h1
theorem Own.tn {w u : World} {p N : Nat} {S : St} (h : Own w u p N S) : Tn No w u := h.choose_spec.2.1
theorem Own.no {w u u' : World} {p N : Nat} {S : St} (h : Own w u p N S) (t : Tn No u u') : Own w u' p N S := by
  obtain ⟨L, hp, t0, hl⟩ := h
  exact ⟨L, hp.no t, t0.then t, hl⟩
theorem Own.plt {w u : World} {p N : Nat} {S : St} (h : Own w u p N S) : p < u.heap.size ∧ w.heap.size ≤ p := by
  obtain ⟨L, hp, _, hl⟩ := h
  exact ⟨hp.plt, hl p (by rw [hp.labs]; simp)⟩
theorem Own.mono {w u : World} {p N N' : Nat} {S : St} (h : Own w u p N S) (hN : N ≤ N') : Own w u p N' S := by
  obtain ⟨L, hp, r⟩ := h
  exact ⟨L, hp.mono hN, r⟩

theorem own_new (s : ByteArray) (w w0 : World) (t : Tn No w w0) (hs : s.size ≤ maxLen) : Calls Tryz.prog 14 #[.agg #[.string s, .slice none 0 0]] w0 fun e u => ∃ p, e = .returned (.pointer (some ⟨p, 0, none⟩)) ∧ Own w u p 0 (initSt (fun _ => none) s) ∧ Tn No w0 u :=
  (new_nil s w0 hs).mono (fun e u ⟨p, L, he, hp, t', hl⟩ => ⟨p, he, ⟨L, hp, t.then t', fun k hk => Nat.le_trans t.size (hl k hk)⟩, t'⟩)

/-- what a call leaves of it -/
theorem Own.lft {w u u' : World} {p N' : Nat} {S' : St} {L : Nat → Option Lab} (t : Tn No w u) (hl : ∀ k, L k ≠ none → w.heap.size ≤ k) (h : Lft u p L u' N' S') : Own w u' p N' S' := by
  obtain ⟨L', a, b, c⟩ := h
  refine ⟨L', a, t.trans b (fun _ _ e => e) (fun i hi e => absurd (hl i e) (by omega)), fun k hk => ?_⟩
  rcases Nat.lt_or_ge k u.heap.size with h1 | h1
  · exact hl k (fun e => hk (c k h1 e))
  · exact Nat.le_trans t.size h1

theorem own_write {w u : World} {p N : Nat} {S : St} (h : Own w u p N S) (hw : WF S) (fd : Int) (s : ByteArray) (h0 : -9223372036854775808 ≤ fd) (h1 : fd ≤ 9223372036854775807) (hN : N + N + 2 * s.size + 2 ≤ 1099511627776) :
    Calls Tryz.prog 163 #[.pointer (some ⟨p, 0, none⟩), .int .i64 fd, .string s] u fun e u' => e = .returned (.int .i64 (writeRes S fd s)) ∧ Own w u' p (N + 2 * s.size + 2) (S.write fd s) := by
  obtain ⟨L, hp, t, hl⟩ := h
  exact (write_raw p L N S fd s u hp hw h0 h1 hN).mono (fun e u' ⟨h1, h2⟩ => ⟨h1, Own.lft t hl h2⟩)
theorem own_open {w u : World} {p N : Nat} {S : St} (h : Own w u p N S) (nm : ByteArray) (fl : Int) (hs : nm.size ≤ maxLen) (hN : N + 2 ≤ 1099511627776) :
    Calls Tryz.prog 164 #[.pointer (some ⟨p, 0, none⟩), .string nm, .int .i64 fl] u fun e u' => e = .returned (.int .i64 (openRes S nm fl)) ∧ Own w u' p (N + 2) (openSt S nm fl) := by
  obtain ⟨L, hp, t, hl⟩ := h
  exact (open_raw p L N S nm fl u hp hN hs).mono (fun e u' ⟨h1, h2⟩ => ⟨h1, Own.lft t hl h2⟩)
theorem own_close {w u : World} {p N : Nat} {S : St} (h : Own w u p N S) (fd : Int) (h0 : -9223372036854775808 ≤ fd) (h1 : fd ≤ 9223372036854775807) :
    Calls Tryz.prog 152 #[.pointer (some ⟨p, 0, none⟩), .int .i64 fd] u fun e u' => e = .returned (.int .i64 (closeRes S fd)) ∧ Own w u' p N (S.close fd) := by
  obtain ⟨L, hp, t, hl⟩ := h
  exact (close_raw p L N S fd u hp h0 h1).mono (fun e u' ⟨h1, h2⟩ => ⟨h1, Own.lft t hl h2⟩)
theorem own_trace {w u : World} {p N : Nat} {S : St} (h : Own w u p N S) (hN : N ≤ 1099511627776) :
    Calls Tryz.prog 31 #[.pointer (some ⟨p, 0, none⟩)] u fun e u' => ∃ v, e = .returned v ∧ TV u' v S.tr ∧ Tn No u u' := by
  obtain ⟨L, hp, t, hl⟩ := h
  exact (trace_raw p L N S u hp hN).mono (fun e u' ⟨v, h1, h2, _, h4⟩ => ⟨v, h1, h2, h4⟩)

/-! ### known -/
def bf : ByteArray := ⟨#[102]⟩
def bxyz : ByteArray := ⟨#[120, 121, 122]⟩
def bq : ByteArray := ⟨#[113]⟩
def K0 : St := initSt (fun _ => none) ⟨#[97, 98, 10, 99]⟩
def K1 : St := K0.read (lineLen (K0.inp.drop K0.rd))
def K2 : St := K1.wfile bf bxyz
def K3 : St := K2.rfile bf
def K4 : St := K3.write 1 bq
theorem wf_init (fs : List UInt8 → Option (List UInt8)) (s : ByteArray) : WF (initSt fs s) := fun i _ hk => by
  exfalso
  simp only [initSt, initDs] at hk
  revert hk
  split
  · simp
  · split
    · simp
    · split
      · simp
      · simp [noDe]
theorem wf_read {S : St} (h : WF S) (n : Nat) : WF (S.read n) := h
theorem wf_wfile {S : St} (h : WF S) (nm data : ByteArray) : WF (S.wfile nm data) := by
  unfold St.wfile
  split
  · exact h
  · exact wf_close (wf_write (wf_open h _ _) _ _) _
theorem wf_rfile {S : St} (h : WF S) (nm : ByteArray) : WF (S.rfile nm) := by
  unfold St.rfile
  split
  · exact h
  · exact wf_close (wf_open h _ _) _
theorem k_line : str (nx K0.inp K0.rd (lineLen (K0.inp.drop K0.rd))) = ⟨#[97, 98, 10]⟩ := by kernel_rfl
theorem k_wf : decide (0 ≤ openRes K1 bf 577) = true := by kernel_rfl
theorem k_rf : decide (0 ≤ openRes K2 bf 0) = true := by kernel_rfl
theorem k_rt : str (rfTx K2 bf) = bxyz := by kernel_rfl
theorem k_tr : K4.tr = [⟨3, bf, [120, 121, 122]⟩, ⟨1, noName, [113]⟩] := by kernel_rfl
theorem wf_k1 : WF K1 := wf_read (wf_init _ _) _
theorem wf_k3 : WF K3 := wf_rfile (wf_wfile wf_k1 _ _) _
end Go.Proofs.YtoidddfpekbliaaGreat
namespace Go.Proofs.YtoidddfpekbliaaGreat
set_option linter.unusedSimpArgs false
set_option linter.unusedVariables false
open Go.RowKit
attribute [local go_sem ↓] Go.wp_at_zero Go.wp_at_succ

theorem nx_fits (l : List UInt8) (pl n : Nat) : pl + (nx l pl n).length ≤ max pl l.length := by simp [nx]; omega

set_option maxHeartbeats 4000000 in
set_option maxRecDepth 100000 in
theorem read_file (p : Nat) (L : Nat → Option Lab) (N : Nat) (S : St) (i : Nat) (n : Nat) (w : World) (h : PW w p L N S) (hi : i < 19) (hN : N + N ≤ 1099511627776) (hn : n ≤ 18446744073709551615) (hk : (S.ds i).kind = 4) :
    Calls Tryz.prog 162 #[.pointer (some ⟨p, 0, none⟩), .int .i64 (i : Int), .int .u64 (n : Int)] w (ReadPost w p L N S (i : Int) n) := by
  have hat : S.at (i : Int) = S.ds i := by unfold St.at; rw [if_pos (by omega), Int.toNat_natCast]
  obtain ⟨k, nm, pl, hd⟩ : ∃ k nm pl, S.ds i = ⟨k, nm, pl⟩ := ⟨_, _, _, rfl⟩
  have hk' : k = 4 := by rw [hd] at hk; exact hk
  subst hk'
  have HAT := hid (at_is p L N S (i : Int) w h (by omega) (by omega) 4 nm pl (by rw [hat, hd]))
  have hrt : readTx S (i : Int) n = nx ((S.fs nm.data.toList).getD []) pl n := by
    unfold readTx
    rw [hat, hd]
    rfl
  obtain ⟨hpl, hnm⟩ : pl ≤ N ∧ nm.size ≤ 255 := by
    obtain ⟨c, mo, iv, tv, vs, hx⟩ := h
    have := hx.pl i hi
    rw [hd] at this
    exact this
  have hfit : pl + (nx ((S.fs nm.data.toList).getD []) pl n).length ≤ N := by
    obtain ⟨c, mo, iv, tv, vs, hx⟩ := h
    obtain ⟨v, hr, hbr, hlab, hlen, _⟩ := fm_look2 hx.fm hx.lt nm (by unfold maxLen; omega)
    have := nx_fits ((S.fs nm.data.toList).getD []) pl n
    omega
  have hlp : ∀ u, Tn No w u → ∃ mo v, u.cell? ⟨p, 0, none⟩ = some (.map mo) ∧ (Instr.lookup 90 (.map mo) (.string nm) false).run Tryz.prog u = .ok v u ∧
      (∀ u2, Tn No u u2 → Calls Tryz.prog 167 #[v, .int .i64 (pl : Int), .int .u64 (n : Int)] u2 fun e w2 => e = .returned (.string (str (nx ((S.fs nm.data.toList).getD []) pl n))) ∧ w2 = u2) ∧
      u.cell? ⟨p, 3 + i * 3 + 2, none⟩ = some (.int .i64 (pl : Int)) ∧ u.frozen? ⟨p, 3 + i * 3 + 2, none⟩ = false ∧ p < u.heap.size ∧
      ∀ w3, Tn No (u.setCell ⟨p, 3 + i * 3 + 2, none⟩ (.int .i64 ((pl : Int) + ((nx ((S.fs nm.data.toList).getD []) pl n).length : Int)))) w3 → ReadPost w p L N S (i : Int) n (.returned (.tuple #[.string (str (nx ((S.fs nm.data.toList).getD []) pl n)), .int .i64 ((nx ((S.fs nm.data.toList).getD []) pl n).length : Int)])) w3 := fun u t => by
    obtain ⟨c, mo, iv, tv, vs, hx⟩ := h.no t
    obtain ⟨v, hr, hbr, hlab, hlen, _⟩ := fm_look2 hx.fm hx.lt nm (by unfold maxLen; omega)
    obtain ⟨_, _, d2⟩ := hx.de i hi
    rw [hd] at d2
    refine ⟨mo, v, (hx.sc.cell 0 (by omega)).trans (by rw [hx.c0]), hr, fun u2 t2 => ?_, d2, hx.sc.froz _, hx.sc.lt, fun w3 t3 => ?_⟩
    · have := next_raw v _ pl (n : Int) u2 (hbr.no t2) (by omega) (by omega) (by omega)
      rw [Int.toNat_natCast] at this
      exact this
    · refine ⟨by unfold readRes; rw [if_pos (.inr (by rw [hat, hd])), hrt], ?_⟩
      unfold St.sread
      rw [if_neg (by rw [hat, hd]; simp), if_pos (by rw [hat, hd]), hrt, hat, hd, Int.toNat_natCast]
      have e : ((pl + (nx ((S.fs nm.data.toList).getD []) pl n).length : Nat) : Int) = (pl : Int) + ((nx ((S.fs nm.data.toList).getD []) pl n).length : Int) := by omega
      rw [← e] at t3
      have hpx := hx.setPl i hi (pl + (nx ((S.fs nm.data.toList).getD []) pl n).length) hfit
      rw [hd] at hpx
      exact ⟨L, ⟨_, _, _, _, _, hpx.no t3⟩, (t.any.trans ((Tn.refl _ u).own hx.labs (3 + i * 3 + 2) _) (fun _ _ e => e) (fun j hj e => e)).thenNo t3, fun _ _ e => e⟩
  have HLP := hid hlp
  have plt := h.plt
  have hi2 : (i : Int) < 19 := by omega
  have hi0 : (0 : Int) ≤ (i : Int) := by omega
  obtain ⟨t, ht⟩ : ∃ t, nx ((S.fs nm.data.toList).getD []) pl n = t := ⟨_, rfl⟩
  rw [ht] at HLP hfit
  have hsz : (str t).size = t.length := str_size _
  obtain ⟨st, hst⟩ : ∃ st, str t = st := ⟨_, rfl⟩
  rw [hst] at HLP hsz
  rw [← hsz] at HLP hfit
  have hp63 : (pl : Int) + (st.size : Int) ≤ 9223372036854775807 := by omega
  clear hlp hat h hk hd hN hrt ht hst hsz hfit
  go_enter Tryz.func162, Tryz.ntmps162
  go_wp2_with (go_at_call 165; refine (HAT.out _ (by repeat (first | exact Tn.refl _ _ | apply Tn.drew | apply Tn.drewN | apply Tn.alloc | (refine Tn.then ?_ (by assumption)) | (refine Tn.thenNo ?_ (by assumption))))).mono ?_; rintro e w1 ⟨rfl, ht1⟩; obtain ⟨mo, v, k0, hlk, hnext, kd, kf, kl, hend⟩ := HLP.out ((w1.alloc (.cells #[.int .i64 4, .string nm, .int .i64 (pl : Int)] 92)).drew) (by repeat (first | exact Tn.refl _ _ | apply Tn.drew | apply Tn.drewN | apply Tn.alloc | (refine Tn.then ?_ (by assumption)) | (refine Tn.thenNo ?_ (by assumption)))); have HNEXT := hid hnext; have HEND := hid hend; clear hnext hend; have hz1 := ht1.size; have kp := (Tn.cell (o := 0) ht1 plt (fun e => e)); have kp2 := (Tn.cell (o := 3 + i * 3 + 2) ht1 plt (fun e => e)))
  have hbb : (w1.alloc (.cells #[.int .i64 4, .string nm, .int .i64 (pl : Int)] 92)).heap.size = w1.heap.size + 1 := by simp
  have q1 : (w1.alloc (.cells #[.int .i64 4, .string nm, .int .i64 (pl : Int)] 92)).cell? ⟨w1.heap.size, 1, none⟩ = some (.string nm) := by rw [World.cell?_alloc_new]; rfl
  have q2 : (w1.alloc (.cells #[.int .i64 4, .string nm, .int .i64 (pl : Int)] 92)).cell? ⟨w1.heap.size, 2, none⟩ = some (.int .i64 (pl : Int)) := by rw [World.cell?_alloc_new]; rfl
  rw [World.cell?_drew] at k0 kd
  generalize w1.alloc (.cells #[.int .i64 4, .string nm, .int .i64 (pl : Int)] 92) = u0 at *
  obtain ⟨b, hb⟩ : ∃ b, w1.heap.size = b := ⟨_, rfl⟩
  rw [hb] at q1 q2 hbb ⊢
  have hb1 : b < u0.heap.size := by omega
  have hne1 : ¬ b = p := by omega
  have hne2 : ¬ p = b := by omega
  clear kp kp2 hb hbb ht1 hz1
  go_region_held3 (fun w' => w'.cell? ⟨p, 0, none⟩ = some (.map mo) ∧ w'.cell? ⟨b, 1, none⟩ = some (.string nm) ∧ w'.cell? ⟨b, 2, none⟩ = some (.int .i64 (pl : Int))) (go_keep) (first
    | (go_at_call 167; refine (HNEXT.out _ (by repeat (first | exact Tn.refl _ _ | apply Tn.drew | apply Tn.drewN | apply Tn.alloc | (refine Tn.then ?_ (by assumption)) | (refine Tn.thenNo ?_ (by assumption))))).mono ?_; rintro e w2 ⟨rfl, rfl⟩))
  go_wp2_with fail
  clear q1 q2 k0 hlk HNEXT HLP
  go_region
  all_goals go_wp2_with fail
  all_goals go_ret2
  all_goals exact HEND.out _ (by repeat (first | exact Tn.refl _ _ | apply Tn.drew | apply Tn.drewN | apply Tn.alloc | (refine Tn.then ?_ (by assumption)) | (refine Tn.thenNo ?_ (by assumption))))

theorem read_raw (p : Nat) (L : Nat → Option Lab) (N : Nat) (S : St) (fd : Int) (n : Nat) (w : World) (h : PW w p L N S) (h0 : -9223372036854775808 ≤ fd) (h1 : fd ≤ 9223372036854775807) (hN : N + N ≤ 1099511627776) (hn : n ≤ 18446744073709551615) :
    Calls Tryz.prog 162 #[.pointer (some ⟨p, 0, none⟩), .int .i64 fd, .int .u64 (n : Int)] w (ReadPost w p L N S fd n) := by
  by_cases hk : (S.at fd).kind = 1
  · exact read_in p L N S fd n w h h0 h1 hn hk
  by_cases hk4 : (S.at fd).kind = 4
  · have hr : 0 ≤ fd ∧ fd < 19 := by
      rcases Classical.em (0 ≤ fd ∧ fd < 19) with h | h
      · exact h
      · exfalso; unfold St.at at hk4; rw [if_neg h] at hk4; simp [noDe] at hk4
    have ha : S.at fd = S.ds fd.toNat := by unfold St.at; rw [if_pos hr]
    obtain ⟨i, rfl⟩ : ∃ i : Nat, fd = (i : Int) := ⟨fd.toNat, by omega⟩
    rw [Int.toNat_natCast] at ha
    rw [ha] at hk4
    exact read_file p L N S i n w h (by omega) hN hn hk4
  · exact read_no p L N S fd n w h h0 h1 hk hk4
end Go.Proofs.YtoidddfpekbliaaGreat
namespace Go.Proofs.YtoidddfpekbliaaGreat
set_option linter.unusedSimpArgs false
set_option linter.unusedVariables false
open Go.RowKit
attribute [local go_sem ↓] Go.wp_at_zero Go.wp_at_succ

/-- the kind of a descriptor is written -/
theorem PX.setKd {w : World} {p : Nat} {L : Nat → Option Lab} {N : Nat} {S : St} {c : Nat → Value} {mo : Option Nat} {iv tv : Value} {vs : Nat → Value} (h : PX w p L N S c mo iv tv vs) (i : Nat) (hi : i < 19) (r : Int) :
    PX (w.setCell ⟨p, 3 + i * 3, none⟩ (.int .i64 r)) p L N (S.setDe i { S.ds i with kind := r }) (upd c (3 + i * 3) (.int .i64 r)) mo iv tv vs := by
  obtain ⟨h1, h2, h3, h4, h5⟩ := h.store (3 + i * 3) (by omega) (.int .i64 r)
  refine { h with sc := h1, c0 := ?_, c1 := ?_, c2 := ?_, c60 := ?_, cd := fun j hj => ?_, pl := fun j hj => ?_, lt := fun k hk => by rw [h5]; exact h.lt k hk, fm := h2, inp := h3, ew := h4 }
  · rw [upd_other _ _ (by omega)]; exact h.c0
  · rw [upd_other _ _ (by omega)]; exact h.c1
  · rw [upd_other _ _ (by omega)]; exact h.c2
  · rw [upd_other _ _ (by omega)]; exact h.c60
  · by_cases e : j = i
    · subst e
      simp only [St.setDe, upd_same]
      rw [upd_other _ _ (by omega), upd_other _ _ (by omega)]
      exact ⟨trivial, (h.cd j hj).2.1, (h.cd j hj).2.2⟩
    · simp only [St.setDe, upd_other _ _ e]
      rw [upd_other _ _ (by omega), upd_other _ _ (by omega), upd_other _ _ (by omega)]
      exact h.cd j hj
  · by_cases e : j = i
    · subst e
      simp only [St.setDe, upd_same]
      exact h.pl j hj
    · simp only [St.setDe, upd_other _ _ e]
      exact h.pl j hj

/-- a world before its descriptors are named -/
def rawSt (fs : List UInt8 → Option (List UInt8)) (s : ByteArray) : St := ⟨fs, s.data.toList, 0, fun _ => noDe, []⟩
theorem raw_init (fs : List UInt8 → Option (List UInt8)) (s : ByteArray) : (((rawSt fs s).setDe 0 { (rawSt fs s).ds 0 with kind := 1 }).setDe 1 { ((rawSt fs s).setDe 0 { (rawSt fs s).ds 0 with kind := 1 }).ds 1 with kind := 2 }).setDe 2 { (((rawSt fs s).setDe 0 { (rawSt fs s).ds 0 with kind := 1 }).setDe 1 { ((rawSt fs s).setDe 0 { (rawSt fs s).ds 0 with kind := 1 }).ds 1 with kind := 2 }).ds 2 with kind := 3 } = initSt fs s := by
  simp only [rawSt, St.setDe, initSt, St.mk.injEq, true_and, and_true]
  funext i
  by_cases h2 : i = 2
  · subst h2; rfl
  by_cases h1 : i = 1
  · subst h1; rfl
  by_cases h0 : i = 0
  · subst h0; rfl
  rw [upd_other _ _ h2, upd_other _ _ h1, upd_other _ _ h0]
  simp [initDs, h0, h1, h2]

def zeroCells (iv : Value) : List Value := [.map none, iv, .int .i64 0, .int .i64 0, .string ⟨#[]⟩, .int .i64 0, .int .i64 0, .string ⟨#[]⟩, .int .i64 0, .int .i64 0, .string ⟨#[]⟩, .int .i64 0, .int .i64 0, .string ⟨#[]⟩, .int .i64 0, .int .i64 0, .string ⟨#[]⟩, .int .i64 0, .int .i64 0, .string ⟨#[]⟩, .int .i64 0, .int .i64 0, .string ⟨#[]⟩, .int .i64 0, .int .i64 0, .string ⟨#[]⟩, .int .i64 0, .int .i64 0, .string ⟨#[]⟩, .int .i64 0, .int .i64 0, .string ⟨#[]⟩, .int .i64 0, .int .i64 0, .string ⟨#[]⟩, .int .i64 0, .int .i64 0, .string ⟨#[]⟩, .int .i64 0, .int .i64 0, .string ⟨#[]⟩, .int .i64 0, .int .i64 0, .string ⟨#[]⟩, .int .i64 0, .int .i64 0, .string ⟨#[]⟩, .int .i64 0, .int .i64 0, .string ⟨#[]⟩, .int .i64 0, .int .i64 0, .string ⟨#[]⟩, .int .i64 0, .int .i64 0, .string ⟨#[]⟩, .int .i64 0, .int .i64 0, .string ⟨#[]⟩, .int .i64 0, .slice none 0 0]

theorem zeroCells_de (iv : Value) (i : Nat) (hi : i < 19) : (zeroCells iv)[3 + i * 3]? = some (.int .i64 0) ∧ (zeroCells iv)[3 + i * 3 + 1]? = some (.string ⟨#[]⟩) ∧ (zeroCells iv)[3 + i * 3 + 2]? = some (.int .i64 ((0 : Nat) : Int)) := by
  rcases (by omega : i = 0 ∨ i = 1 ∨ i = 2 ∨ i = 3 ∨ i = 4 ∨ i = 5 ∨ i = 6 ∨ i = 7 ∨ i = 8 ∨ i = 9 ∨ i = 10 ∨ i = 11 ∨ i = 12 ∨ i = 13 ∨ i = 14 ∨ i = 15 ∨ i = 16 ∨ i = 17 ∨ i = 18) with rfl | rfl | rfl | rfl | rfl | rfl | rfl | rfl | rfl | rfl | rfl | rfl | rfl | rfl | rfl | rfl | rfl | rfl | rfl <;> exact ⟨rfl, rfl, rfl⟩

theorem zero_px {w : World} {iv : Value} {s : ByteArray} {g : Nat} (hbr : BR w iv s.data.toList) (hg : iv.ownBlock = some g) :
    PW (w.alloc (.cells (zeroCells iv).toArray 96)) w.heap.size (upd (upd (fun _ => none) w.heap.size (some .st)) g (some .inp)) 0 (rawSt (fun _ => none) s) := by
  have hgl := hbr.lt g hg
  have t : Tn No w (w.alloc (.cells (zeroCells iv).toArray 96)) := (by repeat (first | exact Tn.refl _ _ | apply Tn.drew | apply Tn.drewN | apply Tn.alloc | (refine Tn.then ?_ (by assumption)) | (refine Tn.thenNo ?_ (by assumption))))
  have hcell : ∀ i, (w.alloc (.cells (zeroCells iv).toArray 96)).cell? ⟨w.heap.size, i, none⟩ = (zeroCells iv)[i]? := fun i => by rw [World.cell?_alloc_new]; simp
  have hlen : (zeroCells iv).length = 61 := rfl
  refine ⟨fun i => (zeroCells iv).getD i (.bool false), none, iv, .slice none 0 0, fun _ => .slice none 0 0, ?_⟩
  refine { sc := ⟨by simp, fun i hi => ?_, fun i => ?_⟩, c0 := rfl, c1 := rfl, c2 := rfl, c60 := rfl, cd := fun i hi => ?_, pl := fun i hi => ?_, labs := ?_, lt := fun k hk => ?_, fm := .inl ⟨rfl, fun _ => rfl⟩, inp := hbr.no t, labi := fun g' hg' => ?_, rd := Nat.zero_le _, ew := ⟨RW.nil _ _, fun g h => (by cases h), Nat.le_refl _, fun i e h => (by simp [rawSt] at h)⟩ }
  · rw [hcell, List.getD_eq_getElem?_getD, List.getElem?_eq_getElem (by omega)]; rfl
  · have hh := heap_alloc_new w (.cells (zeroCells iv).toArray 96)
    simp only [World.frozen?, hh]
    simp
  · obtain ⟨a, b, c⟩ := zeroCells_de iv i hi
    simp only [List.getD_eq_getElem?_getD, a, b, c]
    exact ⟨rfl, rfl, rfl⟩
  · exact ⟨Nat.le_refl _, Nat.zero_le _⟩
  · rw [upd_other _ _ (by omega), upd_same]
  · have hs : (w.alloc (.cells (zeroCells iv).toArray 96)).heap.size = w.heap.size + 1 := by simp
    rw [hs]
    by_cases e1 : k = g
    · omega
    · rw [upd_other _ _ e1] at hk
      by_cases e2 : k = w.heap.size
      · omega
      · rw [upd_other _ _ e2] at hk; exact absurd rfl hk
  · rw [hg] at hg'; cases hg'; exact upd_same _ _ _

theorem own_has {w u : World} {p N : Nat} {S : St} (h : Own w u p N S) (s : ByteArray) (hs : s.size ≤ maxLen) : Calls Tryz.prog 40 #[.pointer (some ⟨p, 0, none⟩), .string s] u fun e u' => e = .returned (.bool (S.has s)) ∧ u' = u := by
  obtain ⟨L, hp, _⟩ := h
  exact has_raw p L N S s u hp hs
theorem own_put {w u u1 : World} {p N : Nat} {S : St} (h : Own w u p N S) (t1 : Tn No u u1) (s : ByteArray) (v : Value) (l : List UInt8) (hN : N < 9223372036854775807) (hs : s.size ≤ maxLen) (hv : BR u1 v l) (g : Nat) (hg : v.ownBlock = some g) (hgl : u.heap.size ≤ g) (hll : l.length ≤ N + 1) :
    Calls Tryz.prog 41 #[.pointer (some ⟨p, 0, none⟩), .string s, v] u1 fun e u' => e = .returned (.tuple #[]) ∧ Own w u' p (N + 1) (S.put s.data.toList l) := by
  obtain ⟨L, hp, t, hl⟩ := h
  have hL : L g = none := by
    cases e : L g with
    | none => rfl
    | some x => have := hp.lt g (by rw [e]; simp); omega
  obtain ⟨c, mo, iv, tv, vs, hx⟩ := hp
  have hx1 := (hx.no t1).name g (hv.lt g hg) hL (.fl s.data.toList)
  have hgw : w.heap.size ≤ g := Nat.le_trans t.size hgl
  refine (put_raw p _ N S s v l u1 ⟨_, _, _, _, _, hx1⟩ hN hs hv (fun g' hg' => by rw [hg] at hg'; cases hg'; exact upd_same _ _ _) hll).mono (fun e u' ⟨h1, h2⟩ => ⟨h1, ?_⟩)
  refine Own.lft (t.then t1) (fun k hk => ?_) h2
  by_cases e1 : k = g
  · omega
  · rw [upd_other _ _ e1] at hk; exact hl k hk

/-- the files as they are laid in, one after another -/
def addF (fs : List UInt8 → Option (List UInt8)) (f : ByteArray × ByteArray) : List UInt8 → Option (List UInt8) :=
  if okName f.1 = true ∧ (fs f.1.data.toList).isSome = false then fun x => if x = f.1.data.toList then some f.2.data.toList else fs x else fs
def filesOf (fl : List (ByteArray × ByteArray)) : List UInt8 → Option (List UInt8) := fl.foldl addF (fun _ => none)

structure FilesAt (w : World) (a : Option Addr) (n M : Nat) (fl : List (ByteArray × ByteArray)) : Prop where
  len : fl.length = n
  at' : 0 < n → ∃ g off, a = some ⟨g, off, none⟩ ∧ g < w.heap.size ∧ ∀ j (hj : j < fl.length), w.cell? ⟨g, off + j * 2, none⟩ = some (.string fl[j].1) ∧ w.cell? ⟨g, off + j * 2 + 1, none⟩ = some (.string fl[j].2)
  big : ∀ j (hj : j < fl.length), fl[j].1.size ≤ maxLen ∧ fl[j].2.size ≤ M

set_option maxHeartbeats 4000000 in
set_option maxRecDepth 100000 in
theorem new_raw (s : ByteArray) (a : Option Addr) (n cn M : Nat) (fl : List (ByteArray × ByteArray)) (w : World) (hs : s.size ≤ maxLen) (hf : FilesAt w a n M fl) (hM : M ≤ 1099511627776) (hn : n ≤ 1099511627776) :
    Calls Tryz.prog 14 #[.agg #[.string s, .slice a n cn]] w fun e u => ∃ p, e = .returned (.pointer (some ⟨p, 0, none⟩)) ∧ Own w u p (M + n) (initSt (filesOf fl) s) := by
  have HF := hid hf
  clear hf
  go_enter Tryz.func14, Tryz.ntmps14
  go_wp2_with (refine wpList_bytes _ rfl (.tmp 7) rfl s rfl hs ?_; intro g cap w1 hbr t1 hg1 hg2; obtain ⟨o1, o2⟩ := t1.old; have hz1 := t1.size; simp at hz1; have q1 : w1.cell? ⟨w.heap.size, 1, none⟩ = some (.slice a n cn) := (by rw [o1 _ _ (by simp), World.cell?_alloc_new]; rfl); have hlt : w.heap.size < w1.heap.size := hz1; clear o1 o2)
  have hown : Own w (w1.alloc (.cells (zeroCells (.slice (some ⟨g, 0, none⟩) s.size cap)).toArray 96)) w1.heap.size 0 (rawSt (fun _ => none) s) := by
    refine ⟨_, zero_px hbr rfl, (Tn.alloc (Tn.refl _ _) _ |>.then t1).alloc _, fun k hk => ?_⟩
    by_cases e1 : k = g
    · subst e1; simp at hg1; omega
    · rw [upd_other _ _ e1] at hk
      by_cases e2 : k = w1.heap.size
      · omega
      · rw [upd_other _ _ e2] at hk; exact absurd rfl hk
  have HOWN := hid hown
  obtain ⟨p, hp⟩ : ∃ p, w1.heap.size = p := ⟨_, rfl⟩
  rw [hp] at HOWN ⊢
  clear hown hbr hp hg1 hg2 hz1 hlt q1 t1
  go_loopw [14] (fun i u => ∃ k : Nat, k ≤ n ∧ i = .int .i64 (k : Int) ∧ Hid (Own w u p (M + k) (rawSt (filesOf (fl.take k)) s))) (fun i _ => n - (intOf i).toNat)
  case atStart => exact ⟨0, by omega, rfl, hid (HOWN.out.mono (by omega))⟩
  case round =>
    obtain ⟨k, hk, rfl, HO⟩ := hrel
    clear HOWN
    by_cases hlt : k < n
    · have hkl : k < fl.length := by rw [HF.out.len]; exact hlt
      obtain ⟨b, off, rfl, hbl, hbc⟩ := HF.out.at' (by omega)
      obtain ⟨c0, c1⟩ := hbc k hkl
      obtain ⟨z0, z1⟩ := HF.out.big k hkl
      have t0 := HO.out.tn
      have r0 := (t0.cell hbl (fun e => e)).trans c0
      have r1 := (t0.cell hbl (fun e => e)).trans c1
      have htk : filesOf (fl.take (k + 1)) = addF (filesOf (fl.take k)) (fl[k]'hkl) := by
        unfold filesOf
        rw [List.take_succ_eq_append_getElem hkl, List.foldl_append]
        rfl
      have HTK := hid htk
      obtain ⟨f, hf⟩ : ∃ f, fl[k]'hkl = f := ⟨_, rfl⟩
      rw [hf] at r0 r1 z0 z1 HTK
      obtain ⟨nm, dt⟩ := f
      have r0 : wr.cell? ⟨b, off + k * 2, none⟩ = some (.string nm) := r0
      have r1 : wr.cell? ⟨b, off + k * 2 + 1, none⟩ = some (.string dt) := r1
      have hmb := fun u => maybe_raw nm u z0
      have HMB := hid hmb
      have hha : ∀ u, Tn No wr u → _ := fun u t => own_has (HO.out.no t) nm z0
      have HHA := hid hha
      have hki : (k : Int) < (n : Int) := by omega
      have hbw : b < wr.heap.size := Nat.lt_of_lt_of_le hbl t0.size
      have hdm : dt.size ≤ maxLen := by have : dt.size ≤ M := z1; unfold maxLen; omega
      have hdl : dt.data.toList.length ≤ M + k + 1 := by
        have : dt.data.toList.length = dt.size := by simp
        have : dt.size ≤ M := z1
        omega
      have hpu : ∀ u1 g cap, Tn No wr u1 → BR u1 (.slice (some ⟨g, 0, none⟩) dt.size cap) dt.data.toList → wr.heap.size ≤ g → _ := fun u1 g cap t hv hgl => own_put HO.out t nm _ _ (by omega) z0 hv g rfl hgl hdl
      have HPU := hid hpu
      clear hdl hmb hha hpu c0 c1 z0 z1 hbc hf htk
      obtain ⟨on, hon⟩ : ∃ on, okName nm = on := ⟨_, rfl⟩
      obtain ⟨ha, hha⟩ : ∃ ha, (rawSt (filesOf (fl.take k)) s).has nm = ha := ⟨_, rfl⟩
      have HON := hid hon
      have HHS := hid hha
      rw [hon] at HMB
      rw [hha] at HHA
      clear hon hha
      cases on with
      | false =>
        go_wp2_with (first
          | (go_at_call 39; refine (HMB.out _).mono ?_; rintro e w2 ⟨rfl, rfl⟩))
        go_roundw
        case rel => exact ⟨k + 1, by omega, by go_num, hid (by rw [HTK.out]; unfold addF; rw [if_neg (by simp [HON.out])]; exact ((HO.out.no (by repeat (first | exact Tn.refl _ _ | apply Tn.drew | apply Tn.drewN | apply Tn.alloc | (refine Tn.then ?_ (by assumption)) | (refine Tn.thenNo ?_ (by assumption))))).mono (by omega)))⟩
        case measure => simp [intOf]; omega
      | true =>
        cases ha with
        | true =>
          go_wp2_with (first
            | (go_at_call 39; refine (HMB.out _).mono ?_; rintro e w2 ⟨rfl, rfl⟩)
            | (go_at_call 40; refine (HHA.out _ (by repeat (first | exact Tn.refl _ _ | apply Tn.drew | apply Tn.drewN | apply Tn.alloc | (refine Tn.then ?_ (by assumption)) | (refine Tn.thenNo ?_ (by assumption))))).mono ?_; rintro e w2 ⟨rfl, rfl⟩))
          go_roundw
          case rel => exact ⟨k + 1, by omega, by go_num, hid (by rw [HTK.out]; unfold addF; rw [if_neg (by have h := HHS.out; unfold St.has rawSt at h; simp only at h; rw [h]; simp)]; exact ((HO.out.no (by repeat (first | exact Tn.refl _ _ | apply Tn.drew | apply Tn.drewN | apply Tn.alloc | (refine Tn.then ?_ (by assumption)) | (refine Tn.thenNo ?_ (by assumption))))).mono (by omega)))⟩
          case measure => simp [intOf]; omega
        | false =>
          go_wp2_with (first
            | (go_at_call 39; refine (HMB.out _).mono ?_; rintro e w2 ⟨rfl, rfl⟩)
            | (go_at_call 40; refine (HHA.out _ (by repeat (first | exact Tn.refl _ _ | apply Tn.drew | apply Tn.drewN | apply Tn.alloc | (refine Tn.then ?_ (by assumption)) | (refine Tn.thenNo ?_ (by assumption))))).mono ?_; rintro e w2 ⟨rfl, rfl⟩)
            | (go_at_call 41; refine (HPU.out w3 g2 cap2 (by repeat (first | exact Tn.refl _ _ | apply Tn.drew | apply Tn.drewN | apply Tn.alloc | (refine Tn.then ?_ (by assumption)) | (refine Tn.thenNo ?_ (by assumption)))) hbr2 (by simp at hgl2; omega)).mono ?_; rintro e w4 ⟨rfl, ho4⟩)
            | (refine wpList_bytes _ rfl (.tmp 32) rfl dt rfl hdm ?_; intro g2 cap2 w3 hbr2 t3 hgl2 hgl3))
          go_roundw
          case rel => exact ⟨k + 1, by omega, by go_num, hid (by rw [HTK.out]; unfold addF; rw [if_pos (by have h := HHS.out; unfold St.has rawSt at h; exact ⟨HON.out, h⟩)]; exact ho4)⟩
          case measure => simp [intOf]; omega
    · obtain rfl : k = n := by omega
      have e : fl.take k = fl := List.take_of_length_le (by rw [HF.out.len]; exact Nat.le_refl _)
      rw [e] at HO
      obtain ⟨L, ⟨c, mo, iv, tv, vs, hx⟩, tn, hl⟩ := HO.out
      have k3 : wr.cell? ⟨p, 3, none⟩ = some (.int .i64 0) := (hx.de 0 (by omega)).1
      have k6 : wr.cell? ⟨p, 6, none⟩ = some (.int .i64 0) := (hx.de 1 (by omega)).1
      have k9 : wr.cell? ⟨p, 9, none⟩ = some (.int .i64 0) := (hx.de 2 (by omega)).1
      have f3 := hx.sc.froz 3
      have f6 := hx.sc.froz 6
      have f9 := hx.sc.froz 9
      have plt := hx.sc.lt
      have hfin : ∀ u, Tn No (((wr.setCell ⟨p, 3, none⟩ (.int .i64 1)).setCell ⟨p, 6, none⟩ (.int .i64 2)).setCell ⟨p, 9, none⟩ (.int .i64 3)) u → Own w u p (M + k) (initSt (filesOf fl) s) := fun u t => by
        have h3 := ((hx.setKd 0 (by omega) 1).setKd 1 (by omega) 2).setKd 2 (by omega) 3
        rw [raw_init] at h3
        have hpw : w.heap.size ≤ p := hl p (by rw [hx.labs]; simp)
        exact ⟨L, ⟨_, _, _, _, _, h3.no t⟩, (((tn.set _ _ (fun h => by simp only at h; omega)).set _ _ (fun h => by simp only at h; omega)).set _ _ (fun h => by simp only at h; omega)).then t, hl⟩
      have HFIN := hid hfin
      clear hfin hx tn hl e HO
      go_wp2
      go_ret
      exact ⟨p, rfl, HFIN.out _ (by repeat (first | exact Tn.refl _ _ | apply Tn.drew | apply Tn.drewN | apply Tn.alloc | (refine Tn.then ?_ (by assumption)) | (refine Tn.thenNo ?_ (by assumption))))⟩
end Go.Proofs.YtoidddfpekbliaaGreat
namespace Go.Proofs.YtoidddfpekbliaaGreat
set_option linter.unusedSimpArgs false
set_option linter.unusedVariables false
open Go.ChangeShapes Go.WideShapes Go.ChangeAt Go.RowKit Go.Joins

theorem Tryz.cellsStr : Tryz.prog.cellsOf 9 = 1 := by kernel_rfl
theorem Tryz.cellsInt : Tryz.prog.cellsOf 3 = 1 := by kernel_rfl
theorem Tryz.cellsI64 : Tryz.prog.cellsOf 2 = 1 := by kernel_rfl
theorem Tryz.cellsU8 : Tryz.prog.cellsOf 5 = 1 := by kernel_rfl
theorem Tryz.cellsInts : Tryz.prog.cellsOf 72 = 1 := by kernel_rfl
theorem Tryz.cellsWords : Tryz.prog.cellsOf 74 = 1 := by kernel_rfl
theorem Tryz.cellsWord : Tryz.prog.cellsOf 79 = 11 := by kernel_rfl
theorem Tryz.cellsWfun : Tryz.prog.cellsOf 76 = 5 := by kernel_rfl
theorem Tryz.cellsWprog : Tryz.prog.cellsOf 25 = 3 := by kernel_rfl
theorem Tryz.cellsFile : Tryz.prog.cellsOf 98 = 2 := by kernel_rfl
theorem Tryz.cellsWorld : Tryz.prog.cellsOf 33 = 2 := by kernel_rfl

theorem bulk_one {H : Type} (d : DataW H) : 1 ≤ Rows.uptoBulk d := by
  cases d with
  | lit l => cases l <;> simp [Rows.uptoBulk]
  | _ => simp [Rows.uptoBulk]
theorem bulk_len {H : Type} (l : List (DataW H)) : l.length ≤ Rows.uptoBulkAll l := by
  induction l with
  | nil => exact Nat.zero_le _
  | cons d r ih => have := bulk_one d; simp only [Rows.uptoBulkAll, List.length_cons]; omega
theorem bulk_sum {H α : Type} (wt : α → Nat) (f : Nat → α) (D : Nat → DataW H) (l : List Nat) (h : ∀ i ∈ l, wt (f i) ≤ Rows.uptoBulk (D i)) : ((l.map f).map wt).sum ≤ Rows.uptoBulkAll (l.map D) := by
  induction l with
  | nil => exact Nat.zero_le _
  | cons i r ih =>
    have h0 := h i (List.mem_cons_self ..)
    have := ih (fun j hj => h j (List.mem_cons_of_mem _ hj))
    simp only [List.map_cons, List.sum_cons, Rows.uptoBulkAll]
    omega

theorem sum_mem {n : Nat} {l : List Nat} (h : n ∈ l) : n ≤ l.sum := by
  induction l with
  | nil => cases h
  | cons m r ih =>
    simp only [List.sum_cons]
    rcases List.mem_cons.1 h with rfl | h
    · omega
    · have := ih h; omega

/-- a row whose cells are known, by its block -/
theorem row_cells {W : World} {a : Addr} {n : Nat} (f : Nat → Option Value) (h0 : 0 < n) (hs : ∀ i, i < n → (f i).isSome = true) (hc : ∀ i, i < n → W.cell? (a.add i) = f i) : ∃ g off, a = ⟨g, off, none⟩ ∧ g < W.heap.size ∧ ∀ j, j < n → W.cell? ⟨g, off + j, none⟩ = f j := by
  obtain ⟨b, off, spot⟩ := a
  obtain ⟨x, hx⟩ := Option.isSome_iff_exists.1 (hs 0 h0)
  have hc0 := hc 0 h0
  rw [hx] at hc0
  have hspot : spot = none := by simpa [Addr.add] using World.cell?_spot hc0
  subst hspot
  have hadd : ∀ j, (⟨b, off, none⟩ : Addr).add j = ⟨b, off + j, none⟩ := fun j => by simp [Addr.add]
  rw [hadd] at hc0
  exact ⟨b, off, rfl, World.block_lt_of_cell? _ _ hc0, fun j hj => by rw [← hadd]; exact hc j hj⟩

section
variable {H : Type} {enc : TypeId × Value → H} {W : World}

theorem open_ld {α : Type} [Inhabited α] {size : Nat} {en : α → List Value} {t e : TypeId} (ht : Tryz.prog.underlying t = some (.slice e)) (hC : Tryz.prog.cellsOf e = size) (hs : 0 < size) (hen : ∀ y, (en y).length = size) (Q : α → Prop) (wt : α → Nat)
    (each : ∀ n cs x, DataW.trod enc Tryz.prog W 0 (fun _ => true) true n e cs = some x → ∃ y : α, cs = en y ∧ Q y ∧ wt y ≤ Rows.uptoBulk x.1)
    {fuel : Nat} {v : Value} {x : DataW H × List MemPlace} (h : DataW.trod enc Tryz.prog W 0 (fun _ => true) true fuel t [v] = some x) :
    ∃ l : List α, LD size en W v l ∧ (∀ y ∈ l, Q y) ∧ l.length + 1 ≤ Rows.uptoBulk x.1 ∧ (l.map wt).sum + 1 ≤ Rows.uptoBulk x.1 := by
  rcases Go.Deep.open_slice ht h with ⟨hcs, hx⟩ | ⟨a, len, cap, m, nn, D, Pl, hcs, _, hl, hm, hz, hx, hall⟩
  · have hv : v = .slice none 0 0 := by simpa using hcs
    subst hv
    exact ⟨[], LD.nil _ _ _, (fun y hy => by cases hy), by rw [hx]; simp [Rows.uptoBulk], by rw [hx]; simp [Rows.uptoBulk]⟩
  · have hv : v = .slice (some a) len cap := by simpa using hcs
    subst hv
    simp only [if_true] at hz
    subst hz
    rw [hC] at hall
    have hd : x.1 = .slice ((List.range len).map D) ((List.range (m - len)).map fun j => D (len + j)) := by rw [hx]
    have each' : ∀ i, i < m → ∃ y : α, Q y ∧ wt y ≤ Rows.uptoBulk (D i) ∧ ∀ j, j < size → W.cell? (a.add (i * size + j)) = (en y)[j]? := fun i hi => by
      obtain ⟨cs', h1, h2⟩ := hall i hi
      obtain ⟨y, rfl, hq, hb⟩ := each _ _ _ h2
      obtain ⟨_, hlen, hcell⟩ := World.cells?_some h1
      refine ⟨y, hq, hb, fun j hj => ?_⟩
      have := hcell j hj
      rw [Go.Deep.add_add] at this
      exact this
    obtain ⟨Y, hY⟩ := Go.Deep.choose_lt (α := α) each'
    have hsum := bulk_sum wt Y D (List.range len) (fun i hi => (hY i (by have := List.mem_range.1 hi; omega)).2.1)
    have hlen := bulk_len ((List.range len).map D)
    simp only [List.length_map, List.length_range] at hlen
    refine ⟨(List.range len).map Y, ⟨some a, m, by simp, by simpa using hl, by unfold maxLen at hm; omega, fun h0 => ?_⟩, fun y hy => ?_, by rw [hd]; simp only [Rows.uptoBulk, List.length_map, List.length_range]; omega, by rw [hd]; simp only [Rows.uptoBulk]; omega⟩
    · simp only [List.length_map, List.length_range] at h0
      have hdm : ∀ j, j < len * size → j / size < len ∧ j % size < size := fun j hj => ⟨(Nat.div_lt_iff_lt_mul hs).2 hj, Nat.mod_lt _ hs⟩
      obtain ⟨g, off, e, hg, hc⟩ := row_cells (W := W) (a := a) (n := len * size) (fun j => (en (Y (j / size)))[j % size]?) (Nat.mul_pos h0 hs) (fun j hj => by
        rw [List.getElem?_eq_getElem (by rw [hen]; exact (hdm j hj).2)]; rfl) (fun j hj => by
        have := (hY (j / size) (by have := (hdm j hj).1; omega)).2.2 (j % size) (hdm j hj).2
        rw [Nat.mul_comm, Nat.div_add_mod] at this
        exact this)
      subst e
      refine ⟨g, off, rfl, hg, fun i hi j hj => ?_⟩
      have hil : i < len := by simpa using hi
      have hlt : i * size + j < len * size := by
        have := Nat.mul_le_mul_right size (show i + 1 ≤ len by omega)
        rw [Nat.add_mul] at this; omega
      rw [hc _ hlt]
      have e1 : (i * size + j) / size = i := by rw [Nat.mul_comm, Nat.mul_add_div hs, Nat.div_eq_of_lt hj, Nat.add_zero]
      have e2 : (i * size + j) % size = j := by rw [Nat.mul_comm, Nat.mul_add_mod, Nat.mod_eq_of_lt hj]
      simp only [e1, e2, List.getElem_map, List.getElem_range]
    · obtain ⟨i, hi, rfl⟩ := List.mem_map.1 hy
      exact (hY i (by have := List.mem_range.1 hi; omega)).1

theorem i64_of {a : Int} (w0 : (Lit.int .i64 a).wf = true) : i64ok a := by simpa [i64ok, Lit.wf, IntKind.min, IntKind.max, IntKind.signed, IntKind.bits] using w0
theorem u8_of {a : Int} (w0 : (Lit.int .u8 a).wf = true) : 0 ≤ a ∧ a ≤ 255 := by simpa [Lit.wf, IntKind.min, IntKind.max, IntKind.signed, IntKind.bits] using w0

instance : Inhabited Wd := ⟨⟨0, 0, 0, 0, 0, 0, 0, 0, 0, 0, .slice none 0 0, []⟩⟩
instance : Inhabited Wf := ⟨⟨⟨#[]⟩, 0, 0, 0, .slice none 0 0, []⟩⟩

theorem open_ints {fuel : Nat} {v : Value} {x : DataW H × List MemPlace} (h : DataW.trod enc Tryz.prog W 0 (fun _ => true) true fuel 72 [v] = some x) :
    ∃ l : List Int, LD 1 eI W v l ∧ (∀ r ∈ l, i64ok r) ∧ l.length + 1 ≤ Rows.uptoBulk x.1 := by
  obtain ⟨l, h1, h2, h3, _⟩ := open_ld (enc := enc) (W := W) Tryz.underlying72 Tryz.cellsInt (by omega) (fun y => rfl) i64ok (fun _ => 1) (fun n cs x h => by
    obtain ⟨a0, e0, x0, w0⟩ := DataW.trod_int Tryz.underlying3 h
    exact ⟨a0, e0, i64_of w0, by rw [x0]; simp [Rows.uptoBulk]⟩) h
  exact ⟨l, h1, h2, h3⟩
theorem open_bytes {fuel : Nat} {v : Value} {x : DataW H × List MemPlace} (h : DataW.trod enc Tryz.prog W 0 (fun _ => true) true fuel 23 [v] = some x) :
    ∃ l : List Int, LD 1 eB W v l ∧ (∀ r ∈ l, 0 ≤ r ∧ r ≤ 255) ∧ l.length + 1 ≤ Rows.uptoBulk x.1 := by
  obtain ⟨l, h1, h2, h3, _⟩ := open_ld (α := Int) (enc := enc) (W := W) Tryz.underlying23 Tryz.cellsU8 (by omega) (fun y => rfl) (fun r => 0 ≤ r ∧ r ≤ 255) (fun _ => 1) (fun n cs x h => by
    obtain ⟨a0, e0, x0, w0⟩ := DataW.trod_int Tryz.underlying5 h
    exact ⟨a0, e0, u8_of w0, by rw [x0]; simp [Rows.uptoBulk]⟩) h
  exact ⟨l, h1, h2, h3⟩

set_option maxRecDepth 100000 in
set_option maxHeartbeats 1000000 in
theorem open_word {n : Nat} {cs : List Value} {x : DataW H × List MemPlace} (h : DataW.trod enc Tryz.prog W 0 (fun _ => true) true n 79 cs = some x) :
    ∃ t : Wd, cs = eW t ∧ (LD 1 eI W t.av t.args ∧ (i64ok t.k ∧ i64ok t.d ∧ i64ok t.a ∧ i64ok t.b ∧ i64ok t.l ∧ i64ok t.f ∧ i64ok t.cond ∧ i64ok t.real ∧ i64ok t.size ∧ i64ok t.imm) ∧ ∀ y ∈ t.args, i64ok y) ∧ t.args.length + 1 ≤ Rows.uptoBulk x.1 := by
  obtain ⟨xs, k, hk, hxy, hcl, hxl, hf⟩ := DataW.trod_struct Tryz.underlying79 h
  rw [Tryz.cellsWord] at hcl
  match xs, hxl, cs, hcl with
  | [y0, y1, y2, y3, y4, y5, y6, y7, y8, y9, y10], _, [v0, v1, v2, v3, v4, v5, v6, v7, v8, v9, v10], _ =>
    have g0 := hf 0 _ rfl
    have g1 := hf 1 _ rfl
    have g2 := hf 2 _ rfl
    have g3 := hf 3 _ rfl
    have g4 := hf 4 _ rfl
    have g5 := hf 5 _ rfl
    have g6 := hf 6 _ rfl
    have g7 := hf 7 _ rfl
    have g8 := hf 8 _ rfl
    have g9 := hf 9 _ rfl
    have g10 := hf 10 _ rfl
    simp only [Tryz.cellsInt, Tryz.cellsI64, Tryz.cellsInts, List.drop, List.take, List.getElem?_cons_zero, List.getElem?_cons_succ] at g0 g1 g2 g3 g4 g5 g6 g7 g8 g9 g10
    obtain ⟨a0, e0, x0, w0⟩ := DataW.trod_int Tryz.underlying3 g0
    obtain ⟨a1, e1, x1, w1⟩ := DataW.trod_int Tryz.underlying3 g1
    obtain ⟨a2, e2, x2, w2⟩ := DataW.trod_int Tryz.underlying3 g2
    obtain ⟨a3, e3, x3, w3⟩ := DataW.trod_int Tryz.underlying3 g3
    obtain ⟨a4, e4, x4, w4⟩ := DataW.trod_int Tryz.underlying3 g4
    obtain ⟨a5, e5, x5, w5⟩ := DataW.trod_int Tryz.underlying3 g5
    obtain ⟨a6, e6, x6, w6⟩ := DataW.trod_int Tryz.underlying3 g6
    obtain ⟨a7, e7, x7, w7⟩ := DataW.trod_int Tryz.underlying3 g7
    obtain ⟨a8, e8, x8, w8⟩ := DataW.trod_int Tryz.underlying3 g8
    obtain ⟨a9, e9, x9, w9⟩ := DataW.trod_int Tryz.underlying2 g9
    obtain ⟨l, h1, h2, h3⟩ := open_ints g10
    obtain rfl : v0 = .int .i64 a0 := by simpa [Tryz.cellsInt] using e0
    obtain rfl : v1 = .int .i64 a1 := by simpa [Tryz.cellsInt] using e1
    obtain rfl : v2 = .int .i64 a2 := by simpa [Tryz.cellsInt] using e2
    obtain rfl : v3 = .int .i64 a3 := by simpa [Tryz.cellsInt] using e3
    obtain rfl : v4 = .int .i64 a4 := by simpa [Tryz.cellsInt] using e4
    obtain rfl : v5 = .int .i64 a5 := by simpa [Tryz.cellsInt] using e5
    obtain rfl : v6 = .int .i64 a6 := by simpa [Tryz.cellsInt] using e6
    obtain rfl : v7 = .int .i64 a7 := by simpa [Tryz.cellsInt] using e7
    obtain rfl : v8 = .int .i64 a8 := by simpa [Tryz.cellsInt] using e8
    obtain rfl : v9 = .int .i64 a9 := by simpa [Tryz.cellsI64] using e9
    refine ⟨⟨a0, a1, a2, a3, a4, a5, a6, a7, a8, a9, v10, l⟩, rfl, ⟨h1, ⟨i64_of w0, i64_of w1, i64_of w2, i64_of w3, i64_of w4, i64_of w5, i64_of w6, i64_of w7, i64_of w8, i64_of w9⟩, h2⟩, ?_⟩
    rw [hxy]
    simp only [List.map_cons, List.map_nil, Rows.uptoBulk, Rows.uptoBulkAll]
    omega

/-- how much a function that is handed in holds -/
def Wf.wt (f : Wf) : Nat := (f.code.map (fun t : Wd => t.args.length + 1)).sum + 1
theorem wt_len (l : List Wd) : l.length ≤ (l.map (fun t : Wd => t.args.length + 1)).sum := by
  induction l with
  | nil => simp
  | cons t r ih => simp only [List.map_cons, List.sum_cons, List.length_cons]; omega
theorem wt_mem {l : List Wd} {t : Wd} (h : t ∈ l) : t.args.length + 1 ≤ (l.map (fun t : Wd => t.args.length + 1)).sum := sum_mem (List.mem_map_of_mem (f := fun t : Wd => t.args.length + 1) h)

set_option maxRecDepth 100000 in
theorem open_wfun {n : Nat} {cs : List Value} {x : DataW H × List MemPlace} (h : DataW.trod enc Tryz.prog W 0 (fun _ => true) true n 76 cs = some x) :
    ∃ f : Wf, cs = eF f ∧ (LD 11 eW W f.cv f.code ∧ (∀ t ∈ f.code, (LD 1 eI W t.av t.args ∧ (i64ok t.k ∧ i64ok t.d ∧ i64ok t.a ∧ i64ok t.b ∧ i64ok t.l ∧ i64ok t.f ∧ i64ok t.cond ∧ i64ok t.real ∧ i64ok t.size ∧ i64ok t.imm) ∧ ∀ y ∈ t.args, i64ok y)) ∧ i64ok f.params ∧ i64ok f.regs ∧ i64ok f.slots) ∧ f.wt ≤ Rows.uptoBulk x.1 := by
  obtain ⟨xs, k, hk, hxy, hcl, hxl, hf⟩ := DataW.trod_struct Tryz.underlying76 h
  rw [Tryz.cellsWfun] at hcl
  match xs, hxl, cs, hcl with
  | [y0, y1, y2, y3, y4], _, [v0, v1, v2, v3, v4], _ =>
    have g0 := hf 0 _ rfl
    have g1 := hf 1 _ rfl
    have g2 := hf 2 _ rfl
    have g3 := hf 3 _ rfl
    have g4 := hf 4 _ rfl
    simp only [Tryz.cellsInt, Tryz.cellsStr, Tryz.cellsWords, List.drop, List.take, List.getElem?_cons_zero, List.getElem?_cons_succ] at g0 g1 g2 g3 g4
    obtain ⟨a0, e0, x0, w0⟩ := DataW.trod_string Tryz.underlying9 g0
    obtain ⟨a1, e1, x1, w1⟩ := DataW.trod_int Tryz.underlying3 g1
    obtain ⟨a2, e2, x2, w2⟩ := DataW.trod_int Tryz.underlying3 g2
    obtain ⟨a3, e3, x3, w3⟩ := DataW.trod_int Tryz.underlying3 g3
    obtain ⟨l, h1, h2, h3, h4⟩ := open_ld (enc := enc) (W := W) Tryz.underlying74 Tryz.cellsWord (by omega) (fun y => rfl) (fun t : Wd => (LD 1 eI W t.av t.args ∧ (i64ok t.k ∧ i64ok t.d ∧ i64ok t.a ∧ i64ok t.b ∧ i64ok t.l ∧ i64ok t.f ∧ i64ok t.cond ∧ i64ok t.real ∧ i64ok t.size ∧ i64ok t.imm) ∧ ∀ y ∈ t.args, i64ok y)) (fun t => t.args.length + 1) (fun n cs x h => open_word h) g4
    obtain rfl : v0 = .string a0 := by simpa [Tryz.cellsStr] using e0
    obtain rfl : v1 = .int .i64 a1 := by simpa [Tryz.cellsInt] using e1
    obtain rfl : v2 = .int .i64 a2 := by simpa [Tryz.cellsInt] using e2
    obtain rfl : v3 = .int .i64 a3 := by simpa [Tryz.cellsInt] using e3
    have hb : Rows.uptoBulk y4.1 + 1 ≤ Rows.uptoBulk x.1 := by
      rw [hxy]
      simp only [List.map_cons, List.map_nil, Rows.uptoBulk, Rows.uptoBulkAll]
      omega
    exact ⟨⟨a0, a1, a2, a3, v4, l⟩, rfl, ⟨h1, h2, i64_of w1, i64_of w2, i64_of w3⟩, by show (l.map (fun t : Wd => t.args.length + 1)).sum + 1 ≤ _; omega⟩

theorem open_prog {n n' : Nat} {fv dv : Value} {z : Int} {x y : DataW H × List MemPlace} (hx : DataW.trod enc Tryz.prog W 0 (fun _ => true) true n 22 [fv] = some x) (hy : DataW.trod enc Tryz.prog W 0 (fun _ => true) true n' 23 [dv] = some y) (hz : i64ok z)
    (hb : Rows.uptoBulk x.1 + Rows.uptoBulk y.1 ≤ 1048576) : ∃ fs ds, PgA W ⟨fv, fs, dv, ds, z⟩ := by
  obtain ⟨fs, h1, h2, h3, h4⟩ := open_ld (enc := enc) (W := W) Tryz.underlying22 Tryz.cellsWfun (by omega) (fun y => rfl) (fun f : Wf => LD 11 eW W f.cv f.code ∧ (∀ t ∈ f.code, (LD 1 eI W t.av t.args ∧ (i64ok t.k ∧ i64ok t.d ∧ i64ok t.a ∧ i64ok t.b ∧ i64ok t.l ∧ i64ok t.f ∧ i64ok t.cond ∧ i64ok t.real ∧ i64ok t.size ∧ i64ok t.imm) ∧ ∀ y ∈ t.args, i64ok y)) ∧ i64ok f.params ∧ i64ok f.regs ∧ i64ok f.slots) Wf.wt (fun n cs x h => open_wfun h) hx
  obtain ⟨ds, k1, k2, k3⟩ := open_bytes hy
  refine ⟨fs, ds, ⟨h1, fun f hf => ?_, k1, k2, hz, by show fs.length ≤ _; omega, by show ds.length ≤ _; omega⟩⟩
  obtain ⟨q1, q2, q3⟩ := h2 f hf
  have hw : f.wt ≤ (fs.map Wf.wt).sum := sum_mem (List.mem_map_of_mem hf)
  have hw : (f.code.map (fun t : Wd => t.args.length + 1)).sum + 1 ≤ (fs.map Wf.wt).sum := hw
  have hl := wt_len f.code
  refine ⟨q1, fun t ht => ?_, q3, by omega⟩
  obtain ⟨r1, r2, r3⟩ := q2 t ht
  have := wt_mem ht
  exact ⟨r1, r2, r3, by omega⟩

set_option maxRecDepth 100000 in
theorem open_fls {fuel : Nat} {v : Value} {x : DataW H × List MemPlace} (h : DataW.trod enc Tryz.prog W 0 (fun _ => true) true fuel 31 [v] = some x) :
    ∃ (a : Option Addr) (n c : Nat) (fl : List (ByteArray × ByteArray)), v = .slice a n c ∧ n + 1 ≤ Rows.uptoBulk x.1 ∧ FilesAt W a n (Rows.uptoBulk x.1) fl := by
  obtain ⟨l, h1, h2, h3, h4⟩ := open_ld (α := ByteArray × ByteArray) (enc := enc) (W := W) (en := fun f => [.string f.1, .string f.2]) Tryz.underlying31 Tryz.cellsFile (by omega) (fun y => rfl) (fun f => f.1.size ≤ maxLen) (fun f => f.2.size) (fun n cs x h => by
    obtain ⟨xs, k, hk, hxy, hcl, hxl, hf⟩ := DataW.trod_struct Tryz.underlying98 h
    rw [Tryz.cellsFile] at hcl
    match xs, hxl, cs, hcl with
    | [y0, y1], _, [v0, v1], _ =>
      have g0 := hf 0 _ rfl
      have g1 := hf 1 _ rfl
      simp only [Tryz.cellsStr, List.drop, List.take, List.getElem?_cons_zero, List.getElem?_cons_succ] at g0 g1
      obtain ⟨a0, e0, x0, w0⟩ := DataW.trod_string Tryz.underlying9 g0
      obtain ⟨a1, e1, x1, w1⟩ := DataW.trod_string Tryz.underlying9 g1
      obtain rfl : v0 = .string a0 := by simpa [Tryz.cellsStr] using e0
      obtain rfl : v1 = .string a1 := by simpa [Tryz.cellsStr] using e1
      refine ⟨(a0, a1), rfl, w0, ?_⟩
      rw [hxy, x0, x1]
      have e : a1.data.toList.length = a1.size := by simp
      simp only [List.map_cons, List.map_nil, Rows.uptoBulk, Rows.uptoBulkAll]
      omega) h
  obtain ⟨a, c, rfl, q1, q2, q3⟩ := h1
  refine ⟨a, l.length, c, l, rfl, by omega, rfl, fun h0 => ?_, fun j hj => ⟨h2 _ (List.getElem_mem hj), ?_⟩⟩
  · obtain ⟨g, o, rfl, hg, hc⟩ := q3 h0
    refine ⟨g, o, rfl, hg, fun j hj => ⟨?_, ?_⟩⟩
    · simpa using hc j hj 0 (by omega)
    · have := hc j hj 1 (by omega)
      rw [← Nat.add_assoc] at this
      simpa using this
  · have : l[j].2.size ≤ (l.map (fun f => f.2.size)).sum := sum_mem (List.mem_map_of_mem (f := fun f : ByteArray × ByteArray => f.2.size) (List.getElem_mem hj))
    omega
end
end Go.Proofs.YtoidddfpekbliaaGreat
