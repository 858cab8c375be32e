/-
  The reference's New: the walk.
-/
import Derived.Test.YtkbdgdcicflocaaRef24
namespace Go.Proofs.Ytkbdgdcicflocaa
set_option linter.unusedSimpArgs false
set_option linter.unusedVariables false
open Go.RowKit
attribute [local go_sem ↓] Go.wp_at_zero Go.wp_at_succ

theorem RY.withD {w w' : World} {q : Nat} {L : Nat → Option Lab} {N : Nat} {S : St} {fl : List (ByteArray × List UInt8)} {lv tv : Value} {bv : Nat → Value} (h : RY w q L N S fl lv tv bv) (d : Dk) (hd : d < w'.heap.size) (hLd : L d = none) (hs : w.heap.size ≤ w'.heap.size) (hk : ∀ k, L k ≠ none → k ≠ q → w'.heap[k]? = w.heap[k]?) (hq : ∀ i, i ≠ 2 → w'.cell? ⟨q, i, none⟩ = w.cell? ⟨q, i, none⟩) (hq2 : w'.cell? ⟨q, 2, none⟩ = some (.slice (some ⟨d, 0, none⟩) 19 d.cap)) (hqz : ∀ i, w'.frozen? ⟨q, i, none⟩ = false) (ds : Nat → De)
    (hc : ∀ i, i < 19 → w'.cell? ⟨d, i * 3, none⟩ = some (.int .i64 (ds i).kind) ∧ w'.cell? ⟨d, i * 3 + 1, none⟩ = some (.string (ds i).name) ∧ w'.cell? ⟨d, i * 3 + 2, none⟩ = some (.int .i64 ((ds i).place : Int))) (hz : ∀ i, w'.frozen? ⟨d, i, none⟩ = false) (hp : ∀ i, i < 19 → (ds i).place ≤ N ∧ (ds i).name.size ≤ 255) : RX w' q (upd L d (some .inp)) N { S with ds := ds } fl d lv tv bv := by
  have hub : ∀ k y, L k = some y → upd L d (some .inp) k = some y := fun k y e => by
    by_cases ek : k = d
    · subst ek; rw [hLd] at e; cases e
    · rw [upd_other _ _ ek]; exact e
  have nq : ∀ k x, L k = some x → x ≠ .st → w'.heap[k]? = w.heap[k]? := fun k x e1 e2 => hk k (by rw [e1]; simp) (fun e3 => by rw [e3, h.labs] at e1; cases e1; exact e2 rfl)
  have hl : ∀ g, lv.ownBlock = some g → w'.heap[g]? = w.heap[g]? := fun g hg => nq g _ (h.labl g hg) (by simp)
  refine { qlt := Nat.lt_of_lt_of_le h.qlt hs, c0 := (hq 0 (by omega)).trans h.c0, c1 := (hq 1 (by omega)).trans h.c1, c2 := hq2, c3 := (hq 3 (by omega)).trans h.c3, fz := hqz, labs := hub _ _ h.labs, labd := upd_same _ _ _, dc := hc, dz := hz, pl := hp, tr := h.tr.kept (fun g hg => nq g _ (h.labt g hg) (by simp)), labt := fun k e => hub _ _ (h.labt k e), tlen := h.tlen, row := h.row.kept hl, labl := fun k e => hub _ _ (h.labl k e), lc := fun i hi => ?_, len := h.len, lt := fun k hk' => ?_, fs := h.fs, up := h.up, rd := h.rd }
  · obtain ⟨a, b, c, e, f, g⟩ := h.lc i hi
    exact ⟨(vc_kept hl _).trans a, (vc_kept hl _).trans b, c.kept (fun g hg => nq g _ (e g hg) (by simp)), fun k hk' => hub _ _ (e k hk'), f, g⟩
  · by_cases ek : k = d
    · subst ek; exact hd
    · rw [upd_other _ _ ek] at hk'
      exact Nat.lt_of_lt_of_le (h.lt k hk') hs

theorem de_info : (Try.prog.info? 79).map (fun i => (i.zero, i.size, i.bytes)) = some (some (.agg #[.int .i64 0, .string ⟨#[]⟩, .int .i64 0]), 3, 32) := by kernel_rfl
def dsCells : Array Value := madeCells #[.int .i64 0, .string ⟨#[]⟩, .int .i64 0] 57
theorem make_ds (w : World) : (Instr.makeSlice 74 (.int .i64 19) (.int .i64 19)).run Try.prog w = .ok (.slice (some ⟨w.heap.size, 0, none⟩) 19 19) (w.alloc (.cells dsCells 79)) := by
  obtain ⟨i0, hi, hz0, hz1, hz2⟩ := info_parts de_info
  have h := run_make (P := Try.prog) w 74 79 i0 _ Try.underlying74 hi hz0 .i64 .i64 19 19 (by omega) (Int.le_refl _) (by rw [hz2]; omega) (by omega)
  rw [hz1] at h
  exact h

theorem ds_size : dsCells.size = 57 := by decide +kernel
theorem bytes_keep {u : World} {s : ByteArray} {g o : Nat} {v : Value} (hs : s.size ≤ maxLen) (h : u.cell? ⟨g, o, none⟩ = some v) : (Lib.bytesWorld u 5 s).cell? ⟨g, o, none⟩ = some v := by
  have hg : g < u.heap.size := by
    rcases Nat.lt_or_ge g u.heap.size with e | e
    · exact e
    · have hn : u.heap[g]? = none := Array.getElem?_eq_none e
      simp [World.cell?, hn] at h
  exact ((br_new u s hs).2.cell hg (fun e => e)).trans h

def dsInit : Array Value := ((dsCells.setIfInBounds 0 (.int .i64 1)).setIfInBounds 3 (.int .i64 2)).setIfInBounds 6 (.int .i64 3)
theorem dsInit_at (i : Nat) (hi : i < 19) : dsInit[i * 3]? = some (.int .i64 (initDs i).kind) ∧ dsInit[i * 3 + 1]? = some (.string (initDs i).name) ∧ dsInit[i * 3 + 2]? = some (.int .i64 ((initDs i).place : Int)) := by
  rcases (by omega : i = 0 ∨ i = 1 ∨ i = 2 ∨ i = 3 ∨ i = 4 ∨ i = 5 ∨ i = 6 ∨ i = 7 ∨ i = 8 ∨ i = 9 ∨ i = 10 ∨ i = 11 ∨ i = 12 ∨ i = 13 ∨ i = 14 ∨ i = 15 ∨ i = 16 ∨ i = 17 ∨ i = 18) with rfl | rfl | rfl | rfl | rfl | rfl | rfl | rfl | rfl | rfl | rfl | rfl | rfl | rfl | rfl | rfl | rfl | rfl | rfl <;> exact ⟨by kernel_rfl, by kernel_rfl, by kernel_rfl⟩
theorem initDs_small (i : Nat) (N : Nat) : (initDs i).place ≤ N ∧ (initDs i).name.size ≤ 255 := by
  unfold initDs
  repeat' split
  all_goals exact ⟨Nat.zero_le _, Nat.zero_le _⟩

/-- the descriptors are made -/
theorem new_end {w w1 wr : World} {q : Nat} {L : Nat → Option Lab} {N : Nat} {fs : List UInt8 → Option (List UInt8)} {s : ByteArray} {fy : List (ByteArray × List UInt8)} {lv tv : Value} {bv : Nat → Value} (hx : RY wr q L N (rawSt fs s) fy lv tv bv) (t1 : Tn No w w1) (tn : Tn No w1 wr) (hl : ∀ k, L k ≠ none → w1.heap.size ≤ k) :
    ROwn w ((wr.setCell ⟨q, 2, none⟩ (.slice (some ⟨wr.heap.size, 0, none⟩) 19 19)).alloc (.cells dsInit 79)) q N (initSt fs s) := by
  have hq := hx.qlt
  have hL : L wr.heap.size = none := by
    cases e : L wr.heap.size with
    | none => rfl
    | some x => have := hx.lt wr.heap.size (by rw [e]; simp); omega
  have hq1 : w1.heap.size ≤ q := hl q (by rw [hx.labs]; simp)
  obtain ⟨wm, hwm⟩ : ∃ wm, wr.setCell ⟨q, 2, none⟩ (.slice (some ⟨wr.heap.size, 0, none⟩) 19 19) = wm := ⟨_, rfl⟩
  have hzm : wm.heap.size = wr.heap.size := by rw [← hwm]; simp
  have tm : Tn No w1 wm := by rw [← hwm]; exact tn.set _ _ (fun h => by simp only at h; omega)
  have ta : Tn No wm (wm.alloc (.cells dsInit 79)) := (Tn.refl No wm).alloc _
  have hcell : ∀ i, (wm.alloc (.cells dsInit 79)).cell? ⟨wr.heap.size, i, none⟩ = dsInit[i]? := fun i => by rw [← hzm, World.cell?_alloc_new]
  have hqm : q < wm.heap.size := by omega
  rw [hwm]
  have h := hx.withD (w' := wm.alloc (.cells dsInit 79)) ⟨wr.heap.size, 19⟩ (by simp [hzm]) hL (by simp [hzm])
    (fun k hk hkq => by
      rw [ta.block k (by rw [hzm]; exact hx.lt k hk) (fun e => e), ← hwm]
      exact Below.heap_setCell _ _ _ _ hkq)
    (fun i hi => by
      rw [ta.cell hqm (fun e => e), ← hwm]
      exact cell_ne (.inr hi))
    (by
      rw [ta.cell hqm (fun e => e), ← hwm]
      exact cell_same (by rw [hx.c2]; rfl))
    (fun i => by
      rw [ta.frozen hqm (fun e => e), ← hwm, World.frozen?_setCell]
      exact hx.fz i)
    initDs (fun i hi => by
      obtain ⟨a, b, c⟩ := dsInit_at i hi
      exact ⟨(hcell _).trans a, (hcell _).trans b, (hcell _).trans c⟩)
    (fun i => by
      have hh := heap_alloc_new wm (.cells dsInit 79)
      rw [hzm] at hh
      simp only [World.frozen?, hh]
      simp)
    (fun i _ => initDs_small i N)
  refine ⟨_, ⟨_, _, _, _, _, h⟩, (t1.then tm).then ta, fun k hk => ?_⟩
  by_cases e : k = wr.heap.size
  · subst e; exact Nat.le_trans t1.size tn.size
  · rw [upd_other _ _ e] at hk
    exact Nat.le_trans t1.size (hl k hk)

set_option maxHeartbeats 4000000 in
set_option maxRecDepth 100000 in
theorem rnew_raw (s : ByteArray) (a : Option Addr) (n cn M : Nat) (fl : List (ByteArray × ByteArray)) (w : World) (hs : s.size ≤ maxLen) (hf : FilesAt w a n M fl) (hM : M + n ≤ 1099511627776) :
    Calls Try.prog 10 #[.agg #[.string s, .slice a n cn]] w fun e u => ∃ q, e = .returned (.pointer (some ⟨q, 0, none⟩)) ∧ ROwn w u q (M + n) (initSt (filesOf fl) s) := by
  have hfa : FilesAt (w.alloc (.cells #[.string s, .slice a n cn] 24)) a n M fl := ⟨hf.len, fun h0 => by
    obtain ⟨g, off, e, hg, hc⟩ := hf.at' h0
    have t : Tn No w (w.alloc (.cells #[.string s, .slice a n cn] 24)) := (Tn.refl No w).alloc _
    exact ⟨g, off, e, Nat.lt_of_lt_of_le hg t.size, fun j hj => ⟨(t.cell hg (fun e => e)).trans (hc j hj).1, (t.cell hg (fun e => e)).trans (hc j hj).2⟩⟩, hf.big⟩
  have hy := zero_py (w.alloc (.cells #[.string s, .slice a n cn] 24)) s
  have hx1 : (w.alloc (.cells #[.string s, .slice a n cn] 24)).cell? ⟨w.heap.size, 1, none⟩ = some (.slice a n cn) := by
    rw [World.cell?_alloc_new]; rfl
  have t1 : Tn No w (w.alloc (.cells #[.string s, .slice a n cn] 24)) := (Tn.refl No w).alloc _
  have hz1 : (w.alloc (.cells #[.string s, .slice a n cn] 24)).heap.size = w.heap.size + 1 := by simp
  rw [hz1] at hy
  clear hf
  go_enter Try.func10, Try.ntmps10
  go_wp2_with fail
  obtain ⟨w1, hw1⟩ : ∃ w1, w.alloc (.cells #[.string s, .slice a n cn] 24) = w1 := ⟨_, rfl⟩
  rw [hw1] at hy hx1 hfa t1 hz1 ⊢
  clear hw1
  obtain ⟨q, hq⟩ : ∃ q, w.heap.size + 1 = q := ⟨_, rfl⟩
  rw [hq] at hy hz1 ⊢
  obtain ⟨b0, hb0⟩ : ∃ b0, w.heap.size = b0 := ⟨_, rfl⟩
  rw [hb0] at hx1 ⊢
  have hb1 : b0 < w1.heap.size := by omega
  have HY := hid hy
  have HF := hid hfa
  clear hy hfa hq
  go_loopw [4] (fun i u => ∃ k : Nat, k ≤ n ∧ i = .int .i64 (k : Int) ∧ Hid (YOwn w1 u q (M + k) (rawSt (filesOf (fl.take k)) s))) (fun i _ => n - (intOf i).toNat)
  case atStart => exact ⟨0, by omega, rfl, hid (HY.out.mono (by omega))⟩
  case round =>
    obtain ⟨k, hk, rfl, HO⟩ := hrel
    have t0 := HO.out.tn
    have x1 := (t0.cell hb1 (fun e => e)).trans hx1
    have xb : b0 < wr.heap.size := Nat.lt_of_lt_of_le hb1 t0.size
    clear HY
    by_cases hlt : k < n
    · have hkl : k < fl.length := by rw [HF.out.len]; exact hlt
      obtain ⟨b, off, rfl, hbl, hbc⟩ := HF.out.at' (by omega)
      obtain ⟨c0, c1⟩ := hbc k hkl
      obtain ⟨z0, z1⟩ := HF.out.big k hkl
      have hc0 := c0
      have hc1 := c1
      have r0 := (t0.cell hbl (fun e => e)).trans c0
      have r1 := (t0.cell hbl (fun e => e)).trans c1
      have htk : filesOf (fl.take (k + 1)) = addF (filesOf (fl.take k)) (fl[k]'hkl) := by
        unfold filesOf
        rw [List.take_succ_eq_append_getElem hkl, List.foldl_append]
        rfl
      have HTK := hid htk
      obtain ⟨f, hf⟩ : ∃ f, fl[k]'hkl = f := ⟨_, rfl⟩
      rw [hf] at r0 r1 z0 z1 HTK hc0 hc1
      obtain ⟨nm, dt⟩ := f
      have hc0 : w1.cell? ⟨b, off + k * 2, none⟩ = some (.string nm) := hc0
      have hc1 : w1.cell? ⟨b, off + k * 2 + 1, none⟩ = some (.string dt) := hc1
      have r0 : wr.cell? ⟨b, off + k * 2, none⟩ = some (.string nm) := r0
      have r1 : wr.cell? ⟨b, off + k * 2 + 1, none⟩ = some (.string dt) := r1
      have HMB := hid (fun u => fits_raw nm u z0)
      obtain ⟨fi, hfi, hfc⟩ := yown_find HO.out nm (by omega)
      have HFC := hid hfc
      have HFI := hid hfi
      have hki : (k : Int) < (n : Int) := by omega
      have hbw : b < wr.heap.size := Nat.lt_of_lt_of_le hbl t0.size
      have hdm : dt.size ≤ maxLen := by have : dt.size ≤ M := z1; unfold maxLen; omega
      have hdl : dt.data.toList.length ≤ M + k + 1 := by
        have : dt.data.toList.length = dt.size := by simp
        have : dt.size ≤ M := z1
        omega
      obtain ⟨on, hon⟩ : ∃ on, okName nm = on := ⟨_, rfl⟩
      have hsz : on = true → nm.size ≤ 255 := fun e => by
        rw [e] at hon
        unfold okName at hon
        simp at hon
        omega
      have hpu : on = true → fi < 0 → ∀ u1 g cap, Tn No wr u1 → BR u1 (.slice (some ⟨g, 0, none⟩) dt.size cap) dt.data.toList → wr.heap.size ≤ g → _ := fun e e2 u1 g cap t hv hgl => yown_lay HO.out t nm (hfi.1 e2) g cap _ _ (by omega) hv hgl hdl (hsz e)
      have HPU := hid hpu
      clear hdl hpu c0 c1 z0 z1 hbc hf htk hsz hfi hfc
      have HON := hid hon
      rw [hon] at HMB
      clear hon
      cases on with
      | false =>
        go_wp2_with (first
          | (go_at_call 29; refine (HMB.out _).mono ?_; rintro e w2 ⟨rfl, rfl⟩)
          | (go_at_call 30; refine (HFC.out _ (by repeat (first | exact Tn.refl _ _ | apply Tn.drew | apply Tn.drewN | apply Tn.alloc | (refine Tn.then ?_ (by assumption)) | (refine Tn.thenNo ?_ (by assumption))))).mono ?_; rintro e w2 ⟨rfl, rfl⟩))
        go_roundw
        case rel => exact ⟨k + 1, by omega, by go_num, hid (by rw [HTK.out]; unfold addF; rw [if_neg (by simp [HON.out])]; exact ((HO.out.no (by repeat (first | exact Tn.refl _ _ | apply Tn.drew | apply Tn.drewN | apply Tn.alloc | (refine Tn.then ?_ (by assumption)) | (refine Tn.thenNo ?_ (by assumption))))).mono (by omega)))⟩
        case measure => simp [intOf]; omega
      | true =>
        by_cases hneg : fi < 0
        · have HNO := hid (HFI.out.1 hneg)
          have HPU' := hid (HPU.out rfl hneg)
          have e1 : decide (fi < 0) = true := by simpa using hneg
          obtain ⟨hbr2, t3⟩ := br_new wr.drew dt hdm
          have t3 : Tn No wr (Lib.bytesWorld wr.drew 5 dt) := ((Tn.refl No wr).drew).then t3
          have hlay := HPU'.out _ _ _ t3 hbr2 (Nat.le_refl _)
          have hcv : ∀ u : World, (convert 9 64 (.string dt)).run Try.prog u = .ok (.slice (some ⟨u.heap.size, 0, none⟩) dt.size (grownCap u dt.size 0 5)) (Lib.bytesWorld u 5 dt) := fun u => Lib.run_convert_string_bytes (P := Try.prog) u 9 64 5 dt Try.underlying9 Try.underlying64 Try.underlying5
          have s1 := bytes_keep (u := wr.drew) hdm x1
          have s2 := bytes_keep (u := wr.drew) hdm r0
          have s3 := bytes_keep (u := wr.drew) hdm r1
          have HLAY := hid hlay
          clear HPU HPU' hlay t3 hbr2
          go_wp2_with (first
            | (go_at_call 29; refine (HMB.out _).mono ?_; rintro e w2 ⟨rfl, rfl⟩)
            | (go_at_call 30; refine (HFC.out _ (by repeat (first | exact Tn.refl _ _ | apply Tn.drew | apply Tn.drewN | apply Tn.alloc | (refine Tn.then ?_ (by assumption)) | (refine Tn.thenNo ?_ (by assumption))))).mono ?_; rintro e w2 ⟨rfl, rfl⟩))
          go_region_with (go_at_call 31; refine HLAY.out.mono ?_; rintro e w4 ⟨rfl, ho4⟩)
          all_goals go_wp2_with fail
          all_goals exact ⟨⟨k + 1, by omega, by go_num, hid (by rw [HTK.out]; unfold addF; rw [if_pos (by have h := HNO.out; unfold St.has rawSt at h; exact ⟨HON.out, h⟩)]; exact ho4)⟩, by simp [intOf]; omega⟩
        · have HYES : Hid ((rawSt (filesOf (fl.take k)) s).has nm = true) := hid (by
            cases h : (rawSt (filesOf (fl.take k)) s).has nm with
            | true => rfl
            | false => exact absurd (HFI.out.2 h) hneg)
          go_wp2_with (first
            | (go_at_call 29; refine (HMB.out _).mono ?_; rintro e w2 ⟨rfl, rfl⟩)
            | (go_at_call 30; refine (HFC.out _ (by repeat (first | exact Tn.refl _ _ | apply Tn.drew | apply Tn.drewN | apply Tn.alloc | (refine Tn.then ?_ (by assumption)) | (refine Tn.thenNo ?_ (by assumption))))).mono ?_; rintro e w2 ⟨rfl, rfl⟩))
          go_roundw
          case rel => exact ⟨k + 1, by omega, by go_num, hid (by rw [HTK.out]; unfold addF; rw [if_neg (by have h := HYES.out; unfold St.has rawSt at h; simp only at h; rw [h]; simp)]; exact ((HO.out.no (by repeat (first | exact Tn.refl _ _ | apply Tn.drew | apply Tn.drewN | apply Tn.alloc | (refine Tn.then ?_ (by assumption)) | (refine Tn.thenNo ?_ (by assumption))))).mono (by omega)))⟩
          case measure => simp [intOf]; omega
    · obtain rfl : k = n := by omega
      have e : fl.take k = fl := List.take_of_length_le (by rw [HF.out.len]; exact Nat.le_refl _)
      rw [e] at HO
      obtain ⟨L, ⟨fy, lv, tv, bv, hx⟩, tn, hl⟩ := HO.out
      have k2 := hx.c2
      have f2 := hx.fz 2
      have plt := hx.qlt
      have HX := hid hx
      have hmk : ∀ u : World, (Instr.makeSlice 74 (.int .i64 19) (.int .i64 19)).run Try.prog u = _ := fun u => make_ds u
      have hsz := ds_size
      have hd0 : dsCells[0]? = some (.int .i64 0) := by kernel_rfl
      have hd3 : dsCells[3]? = some (.int .i64 0) := by kernel_rfl
      have hd6 : dsCells[6]? = some (.int .i64 0) := by kernel_rfl
      have hqn : ¬ q = wr.heap.size := by omega
      have hqn' : ¬ wr.heap.size = q := by omega
      clear hx e HO
      have hfin : ROwn w ((wr.setCell ⟨q, 2, none⟩ (.slice (some ⟨wr.heap.size, 0, none⟩) 19 19)).alloc (.cells (((dsCells.setIfInBounds 0 (.int .i64 1)).setIfInBounds 3 (.int .i64 2)).setIfInBounds 6 (.int .i64 3)) 79)) q (M + k) (initSt (filesOf fl) s) := new_end HX.out t1 tn hl
      go_wp2_with fail
      go_ret
      exact ⟨q, rfl, hfin⟩
end Go.Proofs.Ytkbdgdcicflocaa
