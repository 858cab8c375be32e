/-
  The law WorldPlays.
-/
import Derived.Test.YtkbdgdcicflocaaPlays1
import Derived.Test.YtkbdgdcicflocaaTells
namespace Go.Proofs.Ytkbdgdcicflocaa
set_option linter.unusedSimpArgs false
set_option linter.unusedVariables false
open Go.RowKit
attribute [local go_sem ↓] Go.wp_at_zero Go.wp_at_succ

/-- both worlds, all of whose memory is newer than W -/
def Beside (W u : World) (p q N : Nat) (S : St) : Prop := ∃ X, PP u p q N S N S X ∧ ∀ k, X k → W.heap.size ≤ k ∧ k < u.heap.size
theorem Beside.set {W u : World} {p q N : Nat} {S : St} (h : Beside W u p q N S) (g j : Nat) (v : Value) (hg : g < W.heap.size) : Beside W (u.setCell ⟨g, j, none⟩ v) p q N S := by
  obtain ⟨X, ⟨L, L', a, ⟨fl, d, lv, tv, bv, b⟩, c, e, f⟩, hX⟩ := h
  have hne : ∀ k, X k → k ≠ g := fun k hk e => by have := (hX k hk).1; omega
  have hh : ∀ k, X k → (u.setCell ⟨g, j, none⟩ v).heap[k]? = u.heap[k]? := fun k hk => Below.heap_setCell _ _ _ _ (hne k hk)
  obtain ⟨cc, mo, iv, tv', vs, a⟩ := a
  exact ⟨X, ⟨L, L', ⟨_, _, _, _, _, a.kept (by simp) (fun k hk => hh k (c k hk))⟩, ⟨_, _, _, _, _, b.kept (by simp) (fun k hk => hh k (e k hk))⟩, c, e, f⟩, fun k hk => ⟨(hX k hk).1, by simpa using (hX k hk).2⟩⟩
theorem Beside.drewN {W u : World} {p q N : Nat} {S : St} (h : Beside W u p q N S) (n : Nat) : Beside W (u.drewN n) p q N S := by
  obtain ⟨X, hp, hX⟩ := h
  exact ⟨X, hp.no ((Tn.refl No u).drewN n), hX⟩
theorem Beside.inv {W W0 u : World} {p q N : Nat} {S : St} (h : Beside W u p q N S) (t : Tn No W0 u) (hs : W0.heap.size ≤ W.heap.size) : Inv W0 u p q N S := by
  obtain ⟨X, hp, hX⟩ := h
  exact ⟨t, X, hp, fun k hk => ⟨Nat.le_trans hs (hX k hk).1, (hX k hk).2⟩⟩

theorem Given.set {w : World} {g n : Nat} {fl : List (ByteArray × ByteArray)} {k : Nat} (h : Given w g n fl k) (v0 v1 : Value) : Given ((w.setCell ⟨g, k * 2, none⟩ v0).setCell ⟨g, k * 2 + 1, none⟩ v1) g n fl (k + 1) :=
  ⟨(h.rw.setAny _ _ _).setAny _ _ _, fun j hj hk => by
    obtain ⟨a, b⟩ := h.at' j hj (by omega)
    refine ⟨?_, ?_⟩
    · rw [World.cell?_setCell_other _ _ _ _ (by intro e; have := congrArg Addr.off e; simp only at this; omega), World.cell?_setCell_other _ _ _ _ (by intro e; have := congrArg Addr.off e; simp only at this; omega)]; exact a
    · rw [World.cell?_setCell_other _ _ _ _ (by intro e; have := congrArg Addr.off e; simp only at this; omega), World.cell?_setCell_other _ _ _ _ (by intro e; have := congrArg Addr.off e; simp only at this; omega)]; exact b⟩
theorem Given.drewN {w : World} {g n : Nat} {fl : List (ByteArray × ByteArray)} {k : Nat} (h : Given w g n fl k) (m : Nat) : Given (w.drewN m) g n fl k := ⟨h.rw, h.at'⟩

/-- how much steps let grow -/
def tot5 (xs : List Stp) (k : Nat) : Nat := ((xs.take k).map (fun x => 2 * x.text.size + 4)).sum
theorem tot5_succ (xs : List Stp) (k : Nat) (h : k < xs.length) : tot5 xs (k + 1) = tot5 xs k + (2 * (xs[k]'h).text.size + 4) := by
  unfold tot5
  rw [List.take_succ_eq_append_getElem h, List.map_append, List.sum_append]
  simp
theorem tot5_le (xs : List Stp) (k : Nat) : tot5 xs k ≤ tot5 xs xs.length := by
  unfold tot5
  rw [List.take_length, List.map_take]
  exact sum_take_le _ k
/-- what steps leave -/
def runs (S : St) (xs : List Stp) (k : Nat) : St := (xs.take k).foldl doSt S
theorem runs_succ (S : St) (xs : List Stp) (k : Nat) (h : k < xs.length) : runs S xs (k + 1) = doSt (runs S xs k) (xs[k]'h) := by
  unfold runs
  rw [List.take_succ_eq_append_getElem h, List.foldl_append]
  rfl
theorem ft_runs {S : St} (h : FT S) (xs : List Stp) (k : Nat) : FT (runs S xs k) := by
  unfold runs
  generalize xs.take k = l
  induction l generalizing S with
  | nil => exact h
  | cons x r ih => exact ih (ft_do h x)
theorem inp_runs (S : St) (xs : List Stp) (k : Nat) : (runs S xs k).inp = S.inp := by
  unfold runs
  generalize xs.take k = l
  induction l generalizing S with
  | nil => rfl
  | cons x r ih =>
    show (r.foldl doSt (doSt S x)).inp = _
    rw [ih, inp_do]

theorem inp_init (fs : List UInt8 → Option (List UInt8)) (s : ByteArray) (hs : s.size ≤ 1048576) : (initSt fs s).inp.length ≤ 9223372036854775806 := by
  have e : (initSt fs s).inp.length = s.size := by simp [initSt]
  omega
/-- a list of steps that is handed in -/
structure StepsAt (W : World) (a : Option Addr) (m : Nat) (xs : List Stp) : Prop where
  len : xs.length = m
  ok : ∀ x ∈ xs, x.ok
  at' : 0 < m → ∃ g off, a = some ⟨g, off, none⟩ ∧ g < W.heap.size ∧ ∀ j (hj : j < xs.length), W.cell? ⟨g, off + j * 5, none⟩ = some (.int .i64 xs[j].kind) ∧ W.cell? ⟨g, off + j * 5 + 1, none⟩ = some (.int .i64 xs[j].fd) ∧ W.cell? ⟨g, off + j * 5 + 2, none⟩ = some (.int .u64 (xs[j].n : Int)) ∧ W.cell? ⟨g, off + j * 5 + 3, none⟩ = some (.string xs[j].name) ∧ W.cell? ⟨g, off + j * 5 + 4, none⟩ = some (.string xs[j].text)

theorem inv_does {W u : World} {p q N : Nat} {S : St} (h : Inv W u p q N S) (hf : FT S) (hin : S.inp.length ≤ 9223372036854775806) (x : Stp) (hx : x.ok) (hN : N + N + 2 * x.text.size + 6 ≤ 1099511627776) :
    Calls Try.prog 12 #[.pointer (some ⟨p, 0, none⟩), .pointer (some ⟨q, 0, none⟩), x.val] u fun e u' => e = .returned (.bool true) ∧ Inv W u' p q (N + 2 * x.text.size + 4) (doSt S x) := by
  have h' := h
  obtain ⟨t, X, hp, hX⟩ := h
  refine (does_raw u p q N S X hp (fun e => by have := (hX _ e).2; omega) hf hin x hx hN).mono (fun e u' ⟨h1, h2⟩ => ⟨h1, ?_⟩)
  have hI : Inv W u p q N S := ⟨t, X, hp, hX⟩
  obtain ⟨X', a, b, c⟩ := h2
  refine ⟨t.trans b (fun _ _ e => e) (fun i hi e => by have := (hX i e).1; omega), _, a.trim, fun k hk => ⟨?_, hk.2⟩⟩
  rcases Nat.lt_or_ge k W.heap.size with h1 | h1
  · exact absurd hk.1 (c k (Nat.lt_of_lt_of_le h1 t.size) (fun e => by have := (hX k e).1; omega))
  · exact h1

set_option maxHeartbeats 8000000 in
set_option maxRecDepth 100000 in
theorem plays_walk (s : ByteArray) (a : Option Addr) (n cn M : Nat) (fl : List (ByteArray × ByteArray)) (b : Option Addr) (m cm : Nat) (xs : List Stp) (W : World) (hs : s.size ≤ 1048576) (hf : FilesAt W a n M fl) (hM : M ≤ 1048576) (hn : n ≤ 1048576) (hx : StepsAt W b m xs) (hm : m ≤ 1048576) (ht : tot5 xs m ≤ 8388608) :
    Calls Try.prog 3 #[.agg #[.string s, .slice a n cn], .slice b m cm] W fun e w' => e = .returned (.bool true) ∧ Tn No W w' := by
  obtain ⟨W1, hW1⟩ : ∃ W1, W.alloc (.cells #[.string s, .slice a n cn] 24) = W1 := ⟨_, rfl⟩
  have t01 : Tn No W W1 := by rw [← hW1]; exact (Tn.refl No W).alloc _
  have z1 : W1.heap.size = W.heap.size + 1 := by rw [← hW1]; simp
  have b0 : W1.cell? ⟨W.heap.size, 0, none⟩ = some (.string s) := by rw [← hW1, World.cell?_alloc_new]; rfl
  have b1 : W1.cell? ⟨W.heap.size, 1, none⟩ = some (.slice a n cn) := by rw [← hW1, World.cell?_alloc_new]; rfl
  obtain ⟨C, hmk, W3, hcp, hz3, t13, hgv⟩ := given_raw W1 a n cn M fl (hf.no t01) (by omega)
  rw [z1] at hcp hz3 hgv
  rw [← hW1] at hcp
  have hfg : FilesAt W3 (some ⟨W.heap.size + 1, 0, none⟩) n M fl := ⟨hf.len, fun h0 => ⟨_, 0, rfl, by omega, fun j hj => by rw [Nat.zero_add]; exact hgv.at' j hj (Nat.zero_le _)⟩, hf.big⟩
  have HBX : Hid (∀ u, Tn No W1 u → u.cell? ⟨W.heap.size, 0, none⟩ = some (.string s) ∧ u.cell? ⟨W.heap.size, 1, none⟩ = some (.slice a n cn)) := hid (fun u t => ⟨(t.cell (by omega) (fun e => e)).trans b0, (t.cell (by omega) (fun e => e)).trans b1⟩)
  have HNEW := hid (new_raw s (some ⟨W.heap.size + 1, 0, none⟩) n n M fl W3 (by unfold maxLen; omega) hfg (by omega) (by omega))
  have HRN : Hid (∀ u, Tn No W1 u → Calls Try.prog 10 #[.agg #[.string s, .slice a n cn]] u fun e u' => ∃ q, e = .returned (.pointer (some ⟨q, 0, none⟩)) ∧ ROwn u u' q (M + n) (initSt (filesOf fl) s)) := hid (fun u t => rnew_raw s a n cn M fl u (by unfold maxLen; omega) (hf.no (t01.then t)) (by omega))
  have HCP := hid hcp
  have HK := hid known_raw
  obtain ⟨q0, q1⟩ := HBX.out _ t13
  have hW0 : W.heap.size < W3.heap.size := by omega
  have HGV := hid hgv
  have HF := hid hf
  have HX := hid hx
  clear hcp hfg hgv hf hx b0 b1 hW1
  go_enter Try.func3, Try.ntmps3
  go_wp2_with (first
    | (refine wpList_cpy _ rfl _ _ _ _ rfl _ _ rfl rfl _ W3 HCP.out ?_)
    | (go_at_call 9; refine (HNEW.out).mono ?_; rintro e w4 ⟨p, rfl, hown⟩; have t34 := hown.tn; have HOWN := hid hown; clear hown; obtain ⟨r0, r1⟩ := HBX.out w4 (t13.then t34); have hW4 : W.heap.size < w4.heap.size := Nat.lt_of_lt_of_le hW0 t34.size)
    | (go_at_call 10; refine (HRN.out _ (t13.then t34)).mono ?_; rintro e w5 ⟨q, rfl, hrown⟩)
    | (go_at_call 11; refine (HK.out _).mono ?_; rintro e w6 ⟨rfl, t56⟩))
  have hI : Inv W3 w6 p q (M + n) (initSt (filesOf fl) s) := (inv_new HOWN.out hrown).no t56
  have t36 : Tn No W3 w6 := hI.1
  have t16 := t13.then t36
  have HG6 : Given w6 (W.heap.size + 1) n fl 0 := ⟨HGV.out.rw.kept (fun g hg => t36.block g (HGV.out.rw.lt g hg) (fun e => e)), fun j hj hk => ⟨(t36.cell (by omega) (fun e => e)).trans (HGV.out.at' j hj hk).1, (t36.cell (by omega) (fun e => e)).trans (HGV.out.at' j hj hk).2⟩⟩
  have hB6 : Beside W3 w6 p q (M + n) (initSt (filesOf fl) s) := hI.2
  have z36 := t36.size
  clear hrown HOWN HGV t56 HNEW HRN HK t34 r0 r1 hW4 HCP hI hmk
  go_loopw [8] (fun i wr => ∃ k : Nat, k ≤ n ∧ i = .int .i64 (k : Int) ∧ Tn No W1 wr ∧ Given wr (W.heap.size + 1) n fl k ∧ Beside W3 wr p q (M + n) (initSt (filesOf fl) s) ∧ W3.heap.size ≤ wr.heap.size) (fun i _ => n - (intOf i).toNat)
  case atStart => exact ⟨0, by omega, rfl, t16, HG6, hB6, z36⟩
  case round =>
    obtain ⟨k, hk, rfl, t1r, hgr, hbr, hzr⟩ := hrel
    by_cases hlt : k < n
    · obtain ⟨g, off, rfl, hgl, hc⟩ := HF.out.at' (by omega)
      have hkl : k < fl.length := by have := HF.out.len; omega
      obtain ⟨y0, y1⟩ := hc k hkl
      have y0 : wr.cell? ⟨g, off + k * 2, none⟩ = _ := ((t01.then t1r).cell hgl (fun e => e)).trans y0
      have y1 : wr.cell? ⟨g, off + k * 2 + 1, none⟩ = _ := ((t01.then t1r).cell hgl (fun e => e)).trans y1
      obtain ⟨x0, x1⟩ := hgr.at' k hkl (Nat.le_refl _)
      obtain ⟨_, _, f0, f1⟩ := hgr.rw.at2 k hlt
      obtain ⟨r0, r1⟩ := HBX.out wr t1r
      have hg1 : W.heap.size < wr.heap.size := by omega
      have hg2 : W.heap.size + 1 < wr.heap.size := by omega
      have hg3 : g < wr.heap.size := by omega
      have hki : (k : Int) < (n : Int) := by omega
      have HGR := hid hgr
      have HBR := hid hbr
      have HT := hid t1r
      obtain ⟨fn, hfn⟩ : ∃ fn, fl[k].1 = fn := ⟨_, rfl⟩
      obtain ⟨fd, hfd⟩ : ∃ fd, fl[k].2 = fd := ⟨_, rfl⟩
      rw [hfn] at x0 y0
      rw [hfd] at x1 y1
      clear hc hgr hbr t1r hfn hfd HF HX t13 t16 t36 HG6 hB6
      go_wp2_with fail
      go_quiet (fail)
      go_wp2_with fail
      refine ⟨⟨k + 1, by omega, by go_num, ((HT.out.drewN nq).set ⟨W.heap.size + 1, k * 2, none⟩ _ (fun h => absurd h (by simp only; omega))).set ⟨W.heap.size + 1, k * 2 + 1, none⟩ _ (fun h => absurd h (by simp only; omega)), (HGR.out.drewN nq).set _ _, ((HBR.out.drewN nq).set _ _ _ (by omega)).set _ _ _ (by omega), ?_⟩, by simp [intOf]; omega⟩
      simpa using hzr
    · have hI : Inv W wr p q (M + n) (initSt (filesOf fl) s) := hbr.inv (t01.then t1r) (by omega)
      have HI := hid hI
      have hnk : ¬ (k : Int) < (n : Int) := by omega
      clear hI hgr hbr t1r HF t13 t16 t36 HG6 hB6 HBX q0 q1 hW0 hzr z36 hz3
      go_wp2
      have HI2 : Hid (Inv W wr p q (M + n + tot5 xs 0) (runs (initSt (filesOf fl) s) xs 0)) := HI
      have hft := ft_init (filesOf fl) s
      have hinp := inp_init (filesOf fl) s hs
      obtain ⟨S0, hS0⟩ : ∃ S0, initSt (filesOf fl) s = S0 := ⟨_, rfl⟩
      obtain ⟨N0, hN0⟩ : ∃ N0, M + n = N0 := ⟨_, rfl⟩
      have hN0b : N0 ≤ 2097152 := by omega
      rw [hS0] at HI2 hft hinp
      rw [hN0] at HI2
      have HFT := hid hft
      have HIN := hid hinp
      clear hS0 hN0 HI hft hinp hnk
      obtain ⟨wx, hwx⟩ : ∃ wx, wr = wx := ⟨_, rfl⟩
      rw [hwx] at HI2 ⊢
      clear hwx
      go_loopw [9] (fun i wr => ∃ j : Nat, j ≤ m ∧ i = .int .i64 (j : Int) ∧ Inv W wr p q (N0 + tot5 xs j) (runs S0 xs j)) (fun i _ => m - (intOf i).toNat)
      case atStart => exact ⟨0, by omega, rfl, HI2.out⟩
      case round =>
        obtain ⟨j, hj, rfl, hI⟩ := hrel
        by_cases hlt : j < m
        · obtain ⟨g, off, rfl, hgl, hc⟩ := HX.out.at' (by omega)
          have hjl : j < xs.length := by have := HX.out.len; omega
          obtain ⟨y0, y1, y2, y3, y4⟩ := hc j hjl
          have hok := HX.out.ok xs[j] (List.getElem_mem _)
          have hts := tot5_succ xs j hjl
          have htl := tot5_le xs (j + 1)
          have hle := HX.out.len
          rw [hle] at htl
          have HD := hid (inv_does hI (ft_runs HFT.out xs j) (by rw [inp_runs]; exact HIN.out) xs[j] hok (by omega))
          rw [← runs_succ S0 xs j hjl] at HD
          obtain ⟨x, hx⟩ : ∃ x, xs[j] = x := ⟨_, rfl⟩
          rw [hx] at y0 y1 y2 y3 y4 HD hts
          rw [show N0 + tot5 xs j + 2 * x.text.size + 4 = N0 + tot5 xs (j + 1) by omega] at HD
          obtain ⟨kd, fd, nn, nm, tx⟩ := x
          have ti := hI.1
          have y0 : wr.cell? ⟨g, off + j * 5, none⟩ = _ := (ti.cell hgl (fun e => e)).trans y0
          have y1 : wr.cell? ⟨g, off + j * 5 + 1, none⟩ = _ := (ti.cell hgl (fun e => e)).trans y1
          have y2 : wr.cell? ⟨g, off + j * 5 + 2, none⟩ = _ := (ti.cell hgl (fun e => e)).trans y2
          have y3 : wr.cell? ⟨g, off + j * 5 + 3, none⟩ = _ := (ti.cell hgl (fun e => e)).trans y3
          have y4 : wr.cell? ⟨g, off + j * 5 + 4, none⟩ = _ := (ti.cell hgl (fun e => e)).trans y4
          have hgr : g < wr.heap.size := Nat.lt_of_lt_of_le hgl ti.size
          have hji : (j : Int) < (m : Int) := by omega
          simp only [Stp.val] at HD y0 y1 y2 y3 y4
          clear hc hI hok hts htl hle hx ti HI2 HX
          go_wp2_with (go_at_call 12; refine (HD.out).mono ?_; rintro e w7 ⟨rfl, hI7⟩)
          go_roundw
          case rel => exact ⟨j + 1, by omega, by go_num, hI7⟩
          case measure => simp [intOf]; omega
        · have hmj : ¬ (j : Int) < (m : Int) := by omega
          obtain ⟨tI, X, hp, hX⟩ := hI
          have htl := tot5_le xs j
          rw [HX.out.len] at htl
          have HW := hid (whole_raw wr p q _ _ X hp (by omega))
          have HT := hid tI
          clear hp hX tI htl HX HI2 HFT HIN
          go_wp2_with (go_at_call 13; refine (HW.out).mono ?_; rintro e w8 ⟨rfl, t8⟩)
          go_ret
          exact ⟨rfl, HT.out.then t8⟩
end Go.Proofs.Ytkbdgdcicflocaa
