/-
  The reference's SysWrite into a file, walked; SysWrite whole.
-/
import Derived.Test.YtkbdgdcicflocaaRef20
namespace Go.Proofs.Ytkbdgdcicflocaa
set_option linter.unusedSimpArgs false
set_option linter.unusedVariables false
open Go.RowKit
attribute [local go_sem ↓] Go.wp_at_zero Go.wp_at_succ

/-- how many bytes file i has, as memory tells it -/
def rowLen (w : World) (g i : Nat) : Nat := match w.cell? ⟨g, i * 2 + 1, none⟩ with | some (.slice _ n _) => n | _ => 0
theorem rowLen_of {w : World} {g i n c : Nat} {a : Option Addr} (h : w.cell? ⟨g, i * 2 + 1, none⟩ = some (.slice a n c)) : rowLen w g i = n := by unfold rowLen; rw [h]
theorem WS_self (S : St) (fd : Nat) (nm : ByteArray) (B : List UInt8) (pl : Nat) (h1 : S.fs nm.data.toList = some B) (h2 : S.ds fd = ⟨5, nm, pl⟩) : WS S fd nm B pl = S := by
  unfold WS
  have e1 : (fun x => if x = nm.data.toList then some B else S.fs x) = S.fs := by
    funext x
    split
    · rename_i e; rw [e, h1]
    · rfl
  rw [e1, upd_self _ _ _ h2]

set_option maxHeartbeats 8000000 in
set_option maxRecDepth 100000 in
theorem rwrite_file (w : World) (q : Nat) (L : Nat → Option Lab) (N : Nat) (S : St) (h : PR w q L N S) (fd : Nat) (s : ByteArray) (hfd : fd < 19) (hN : N + 2 * s.size + 2 ≤ 1099511627776) (hk : (S.ds fd).kind = 5) (hfs : (S.fs (S.ds fd).name.data.toList).isSome = true) :
    Calls Try.prog 37 #[.pointer (some ⟨q, 0, none⟩), .int .i64 (fd : Int), .string s] w (RWritePost w q L N S (fd : Int) s) := by
  have HK := hid (kind_raw w q L N S h (fd : Int) (by omega) (by omega))
  obtain ⟨fl, d, lv, tv, bv, hx⟩ := h
  have hat : S.at (fd : Int) = S.ds fd := by unfold St.at; rw [if_pos (by omega), Int.toNat_natCast]
  rw [hat, hk] at HK
  obtain ⟨nm, hnm⟩ : ∃ nm, (S.ds fd).name = nm := ⟨_, rfl⟩
  obtain ⟨pl, hpl⟩ : ∃ pl, (S.ds fd).place = pl := ⟨_, rfl⟩
  rw [hnm] at hfs
  obtain ⟨i, hi, hfi, hfn, hfb⟩ := hx.file nm hfs
  have HF : Hid (∀ u, Tn No w u → Calls Try.prog 30 #[.pointer (some ⟨q, 0, none⟩), .string nm] u fun e w' => e = .returned (.int .i64 (i : Int)) ∧ w' = u) := hid (fun u t => by
    have := find_raw u q L N S fl d lv tv bv (hx.no t) nm (by omega)
    rw [hfi] at this
    exact this)
  obtain ⟨g, cap, rfl, hgl, hlc, hcm, _⟩ := hx.rowFree i hi
  obtain ⟨_, _, _, _, hbN, _⟩ := hx.lc i hi
  obtain ⟨B, hB⟩ : ∃ B, fl[i].2 = B := ⟨_, rfl⟩
  rw [hB] at hbN hfb
  have hds : S.ds fd = ⟨5, nm, pl⟩ := by rw [← hk, ← hnm, ← hpl]
  have cD := hx.c2
  obtain ⟨_, d1, _⟩ := hx.dc fd hfd
  rw [hnm] at d1
  have hplN := (hx.pl fd hfd).1
  rw [hpl] at hplN
  have hdl := hx.dlt
  have hql := hx.qlt
  obtain ⟨nl, hnl⟩ : ∃ nl, fl.length = nl := ⟨_, rfl⟩
  have hset : fl.set i (nm, B) = fl := by
    apply List.ext_getElem (by simp)
    intro k h1 h2
    rw [List.getElem_set]
    split
    · rename_i ek; subst ek; rw [← hfn, ← hB]
    · rfl
  rw [hnl] at hx
  have HRI0 : Hid (RI w w q L (N + s.size + 1) S fl d (.slice (some ⟨g, 0, none⟩) nl cap) tv fd i nm B pl) := hid ⟨L, bv, by rw [WS_self S fd nm B pl hfb hds, hset]; exact hx.mono (by omega), Tn.refl _ _, fun _ _ e => e⟩
  -- what it leaves
  have hend : ∀ u L2, (∀ k, k < w.heap.size → L k = none → L2 k = none) → ∀ w2, Tn (fun k => L k ≠ none) w w2 → RLft w2 q L2 u (N + s.size + 1 + s.size + 1) ((WS S fd nm (layB B pl s.data.toList) (pl + s.size)).say 3 nm s.data.toList) → RWritePost w q L N S (fd : Int) s (.returned (.int .i64 (s.size : Int))) u := fun u L2 hl2 w2 t2 hlft => by
    obtain ⟨L', hp, tt, hl'⟩ := hlft
    refine ⟨by unfold writeRes; rw [hat, hk, if_pos (.inr (.inr rfl))], ?_⟩
    have hst : S.write (fd : Int) s = (WS S fd nm (layB B pl s.data.toList) (pl + s.size)).say 3 nm s.data.toList := by
      unfold St.write
      rw [hat, hds, if_neg (show ¬ ((5 : Int) = 2) by decide), if_neg (show ¬ ((5 : Int) = 3) by decide), if_pos rfl, Int.toNat_natCast]
      congr 1
      unfold St.layF St.setDe St.put WS
      rw [hfb]; rfl
    rw [hst]
    refine RLft.mono (N := N + s.size + 1 + s.size + 1) ⟨L', hp, t2.trans tt (fun _ _ e => e) (fun k hk e e2 => e (hl2 k hk e2)), fun k hk e => hl' k (Nat.lt_of_lt_of_le hk t2.size) (hl2 k hk e)⟩ (by omega)
  have HE := hid hend
  have hil : (i : Int) < (nl : Int) := by omega
  have hfdi : (fd : Int) < 19 := by omega
  have hsl : s.data.toList.length = s.size := by simp
  have HNL := hid hnl
  have HSL := hid hsl
  clear hend hx hat hk hfs hfn hfb hfi hB hnl hset hds hsl
  go_enter Try.func37, Try.ntmps37
  go_wp2_with (first
    | (go_at_call 59; refine HK.out.mono ?_; rintro e w1 ⟨rfl, rfl⟩)
    | (go_at_call 30; refine (HF.out _ (by repeat (first | exact Tn.refl _ _ | apply Tn.drew | apply Tn.drewN | apply Tn.alloc | (refine Tn.then ?_ (by assumption)) | (refine Tn.thenNo ?_ (by assumption))))).mono ?_; rintro e w2 ⟨rfl, rfl⟩))
  go_loopw [8] (fun ij wr => ∃ j : Nat, j ≤ s.size ∧ ij = .int .i64 (j : Int) ∧ Hid (RI w2 wr q L (N + s.size + 1) S fl d (.slice (some ⟨g, 0, none⟩) nl cap) tv fd i nm (layB B pl (s.data.toList.take j)) (pl + j))) (fun ij _ => s.size - (intOf ij).toNat)
  case atStart => exact ⟨0, by omega, rfl, hid (by rw [List.take_zero, show layB B pl [] = B by simp [layB], Nat.add_zero]; exact HRI0.out)⟩
  case round =>
    obtain ⟨j, hj, rfl, HR⟩ := hrel
    obtain ⟨C, hC⟩ : ∃ C, layB B pl (s.data.toList.take j) = C := ⟨_, rfl⟩
    rw [hC] at HR
    obtain ⟨r0, r2, r1, r3, rz, _, _, hq, hd, _⟩ := HR.out.facts hi HNL.out hfd
    by_cases hlt : j < s.size
    · have hCl : C.length ≤ N + s.size := by
        rw [← hC]
        have := layB_length B pl (s.data.toList.take j)
        have h2 : (s.data.toList.take j).length = j := by rw [List.length_take, HSL.out]; omega
        omega
      have hjs : (j : Int) < (s.size : Int) := by omega
      have HC := hid hC
      clear r0 r1 r2 r3 rz hq hd hC
      go_wp2_with fail
      go_loopw [40] (fun _ w3 => ∃ m : Nat, (m = 0 ∨ C.length + m ≤ pl + j + 1) ∧ Hid (RI w2 w3 q L (N + s.size + 1) S fl d (.slice (some ⟨g, 0, none⟩) nl cap) tv fd i nm (C ++ List.replicate m 0) (pl + j))) (fun _ w3 => pl + j + 1 - rowLen w3 g i)
      case atStart => exact ⟨0, .inl rfl, hid (by simpa using HR.out)⟩
      case round =>
        obtain ⟨m, hm, HM⟩ := hrel
        obtain ⟨Z, hZ⟩ : ∃ Z, C ++ List.replicate m 0 = Z := ⟨_, rfl⟩
        have hzl : Z.length = C.length + m := by rw [← hZ]; simp
        rw [hZ] at HM
        obtain ⟨r0, r2, r1, r3, rz, ⟨ab, cb, rb, hbr, hcb, hcm2⟩, rf, hq, hd, hg, hgq, hgd, hqd⟩ := HM.out.facts hi HNL.out hfd
        have HZ := hid hZ
        have HRL := hid (rowLen_of rb)
        clear hZ hbr
        by_cases hle : Z.length ≤ pl + j
        · have e1 : (Z.length : Int) ≤ ((pl + j : Nat) : Int) := by omega
          have HZL := hid hzl
          clear HR hzl
          go_wp2_with fail
          go_quiet (fail)
          go_wp2_with fail
          obtain ⟨w5, h5⟩ : ∃ w5, wr.drewN nq = w5 := ⟨_, rfl⟩
          rw [h5]
          have RI5 := HM.out.no (show Tn No wr w5 from h5 ▸ (Tn.refl No wr).drewN nq)
          have s0 : w5.cell? ⟨q, 0, none⟩ = some (.slice (some ⟨g, 0, none⟩) nl cap) := h5 ▸ r0
          have sb : w5.cell? ⟨g, i * 2 + 1, none⟩ = some (.slice ab Z.length cb) := h5 ▸ rb
          have sf : w5.frozen? ⟨g, i * 2 + 1, none⟩ = false := h5 ▸ rf
          have sq : q < w5.heap.size := h5 ▸ hq
          have sg : g < w5.heap.size := h5 ▸ hg
          have HRI5 := hid RI5
          have HSB := hid sb
          clear RI5 r0 r1 r2 r3 rz rb rf hq hd hg h5 HM
          go_region_law (refine step_pad rfl _ _ rfl rfl (HRI5.out.no (by repeat (first | exact Tn.refl _ _ | apply Tn.drew | apply Tn.drewN | apply Tn.alloc | (refine Tn.then ?_ (by assumption)) | (refine Tn.thenNo ?_ (by assumption))))) hi HNL.out hfd (by omega) (by have := HZL.out; omega) ab cb ((Tn.cell (F := No) (by repeat (first | exact Tn.refl _ _ | apply Tn.drew | apply Tn.drewN | apply Tn.alloc | (refine Tn.then ?_ (by assumption)) | (refine Tn.thenNo ?_ (by assumption)))) sg (fun e => e)).trans HSB.out) w5.heap.size (by first | (rw [World.cell?_alloc_at _ _ _ _ (by simp)]; rfl) | simp) rfl rfl ?_; intro a' c' wa k1 k2 k3 k4 k5 hend)
          all_goals go_wp2_with fail
          all_goals exact ⟨⟨m + 1, .inr (by have := HZL.out; omega), hid (by rw [List.replicate_succ', ← List.append_assoc, HZ.out]; exact hend)⟩, by rw [rowLen_of (cell_same (by rw [k2]; rfl)), HRL.out]; omega⟩
        · have e1 : ¬ (Z.length : Int) ≤ ((pl + j : Nat) : Int) := by omega
          have hpad : Z = padTo C (pl + j + 1) := by
            rw [← HZ.out]
            unfold padTo
            congr 2
            rcases hm with rfl | hm <;> omega
          have HPAD := hid hpad
          have HZL := hid hzl
          clear HR hpad hzl
          go_wp2_with fail
          go_quiet (fail)
          go_wp2_with fail
          obtain ⟨w5, h5⟩ : ∃ w5, wr.drewN nq = w5 := ⟨_, rfl⟩
          rw [h5]
          have RI5 := HM.out.no (show Tn No wr w5 from h5 ▸ (Tn.refl No wr).drewN nq)
          have s0 : w5.cell? ⟨q, 0, none⟩ = some (.slice (some ⟨g, 0, none⟩) nl cap) := h5 ▸ r0
          have s2 : w5.cell? ⟨q, 2, none⟩ = some (.slice (some ⟨d, 0, none⟩) 19 d.cap) := h5 ▸ r2
          have s3 : w5.cell? ⟨d, fd * 3 + 2, none⟩ = some (.int .i64 ((pl + j : Nat) : Int)) := h5 ▸ r3
          have sq : q < w5.heap.size := h5 ▸ hq
          have sd : d < w5.heap.size := h5 ▸ hd
          have sg : g < w5.heap.size := h5 ▸ hg
          obtain ⟨gb, cb2, u, tb, tu, tz, tg, tc1, tc2, RI6⟩ := RI5.byte hi HNL.out hfd (by omega) (by have := HZL.out; omega) (s[j]'hlt)
          obtain ⟨_, x2, _, x3, xz, _, _, xq, xd, _⟩ := RI6.facts (by simpa using hi) HNL.out hfd
          have RI7 := RI6.inc hfd (by omega)
          have hstep : Z.set (pl + j) (s[j]'hlt) = layB B pl (s.data.toList.take (j + 1)) := by
            rw [HPAD.out, ← HC.out]
            have := lay_step B pl s.data.toList j (by have := HSL.out; omega)
            exact this
          rw [hstep] at RI7
          have hcast : ((pl + j + 1 : Nat) : Int) = (pl : Int) + (j : Int) + 1 := by omega
          rw [hcast] at RI7
          have HR7 := hid RI7
          have e2 : ((pl + j : Nat) : Int) < (Z.length : Int) := by omega
          clear RI5 RI6 RI7 r0 r1 r2 r3 rz rb rf hq hd hg h5 HM hstep hcast e1
          go_region
          all_goals go_wp2_with fail
          exact ⟨⟨j + 1, by omega, by simp, hid (HR7.out.no ((Tn.refl No _).drew))⟩, by simp [intOf]; omega⟩
    · have hjl : j = s.size := by omega
      subst hjl
      have HW := HR
      rw [← hC, List.take_of_length_le (by rw [HSL.out]; exact Nat.le_refl _)] at HW
      obtain ⟨L2, bv2, hx2, t2, hl2⟩ := HW.out
      have hsay := rsay_raw wr q L2 (N + s.size + 1) _ ⟨_, _, _, _, _, hx2⟩ 3 nm s (by omega)
      have HSAY := hid hsay
      have HEND := hid (fun u hr => HE.out u L2 hl2 wr t2 hr)
      clear HR hsay HE hx2 hC
      go_wp2_with (go_at_call 60; refine HSAY.out.mono ?_; rintro e w4 ⟨rfl, hr4⟩)
      go_ret
      exact HEND.out _ hr4

/-- the reference's SysWrite, whatever it is handed -/
theorem rwrite_raw (w : World) (q : Nat) (L : Nat → Option Lab) (N : Nat) (S : St) (h : PR w q L N S) (hw : FT S) (fd : Int) (s : ByteArray) (h0 : -9223372036854775808 ≤ fd) (h1 : fd ≤ 9223372036854775807) (hN : N + 2 * s.size + 2 ≤ 1099511627776) :
    Calls Try.prog 37 #[.pointer (some ⟨q, 0, none⟩), .int .i64 fd, .string s] w (RWritePost w q L N S fd s) := by
  by_cases hk : (S.at fd).kind = 2 ∨ (S.at fd).kind = 3
  · exact rwrite_out w q L N S h fd s h0 h1 (by omega) hk
  by_cases hk5 : (S.at fd).kind = 5
  · obtain ⟨i, rfl, hi, e⟩ := at_file (S := S) (fd := fd) (by omega)
    rw [e] at hk5
    exact rwrite_file w q L N S h i s hi hN hk5 (hw i hi (.inr hk5))
  · exact rwrite_no w q L N S h fd s h0 h1 (fun e => hk (.inl e)) (fun e => hk (.inr e)) hk5
end Go.Proofs.Ytkbdgdcicflocaa
