/-
  The reference's Copy.
-/
import Derived.Test.YtkbdgdcicflocaaRCopyA
import Derived.Test.YtkbdgdcicflocaaPlays1
import Derived.Test.YtkbdgdcicflocaaNorm
namespace Go.Proofs.Ytkbdgdcicflocaa
set_option linter.unusedSimpArgs false
set_option linter.unusedVariables false
open Go.RowKit
attribute [local go_sem ↓] Go.wp_at_zero Go.wp_at_succ

/-- bytes made anew, and copied into -/
theorem made_copy (l : List UInt8) (hl : l.length ≤ 1099511627776) : ∃ C : Array Value, (∀ W : World, (Instr.makeSlice 64 (.int .i64 (l.length : Int)) (.int .i64 (l.length : Int))).run Try.prog W = .ok (.slice (some ⟨W.heap.size, 0, none⟩) l.length l.length) (W.alloc (.cells C 5))) ∧
    ∀ (W : World) (a : Option Addr) (c : Nat), BR W (.slice a l.length c) l → ∃ W2, (Builtin.copy_ #[64, 64] 3 #[.slice (some ⟨W.heap.size, 0, none⟩) l.length l.length, .slice a l.length c]).run Try.prog (W.alloc (.cells C 5)) = .ok (.int .i64 (l.length : Int)) W2 ∧ Tn No W W2 ∧ W2.heap.size = W.heap.size + 1 ∧ BR W2 (.slice (some ⟨W.heap.size, 0, none⟩) l.length l.length) l := by
  obtain ⟨i, hi, z0, z1, z2⟩ := info_parts u8_info
  obtain ⟨n, hn⟩ : ∃ n, l.length = n := ⟨_, rfl⟩
  refine ⟨madeCells #[.int .u8 0] n, fun W => ?_, fun W a c hbr => ?_⟩
  · rw [hn] at hl ⊢
    have h := run_make (P := Try.prog) W 64 5 i (.int .u8 0) Try.underlying64 hi z0 .i64 .i64 (n : Int) (n : Int) (by omega) (Int.le_refl _) (by rw [z2]; omega) (by omega)
    rw [z1] at h
    simp only [Int.toNat_natCast, Nat.mul_one] at h
    exact h
  · have hCs : (madeCells #[.int .u8 0] n).size = n := size_madeCells _ _
    obtain ⟨C, hC⟩ : ∃ C, madeCells #[.int .u8 0] n = C := ⟨_, rfl⟩
    rw [hC] at hCs ⊢
    clear hC
    have hcell : ∀ j, j < n → ((W.alloc (.cells C 5)).cell? ⟨W.heap.size, 0 + j, none⟩).isSome = true := fun j hj => by
      rw [World.cell?_alloc_mark, Nat.zero_add, Array.getElem?_eq_getElem (by omega)]; rfl
    have hfz : ∀ j, (W.alloc (.cells C 5)).frozen? ⟨W.heap.size, j, none⟩ = false := fun j => by
      simp only [World.frozen?, heap_alloc_new]
      simp
    have hlen : (bc l).length = n := by rw [bc_length]; exact hn
    have t1 : Tn No W (W.alloc (.cells C 5)) := (Tn.refl No W).alloc _
    refine ⟨(W.alloc (.cells C 5)).setCells W.heap.size 0 (bc l), ?_, ?_, ?_, ?_⟩
    · by_cases h0 : n = 0
      · have e : bc l = [] := List.eq_nil_of_length_eq_zero (by omega)
        rw [e, hn, h0]
        exact run_copy_norows _ _ _ _ 5 1 _ _ _ _ _ _ Try.underlying64 (by rw [hi]; simp [z1]) rfl
      · rw [hn]
        rcases hbr.rw with ⟨e, e2⟩ | ⟨g, cap, e, hg, _⟩
        · omega
        · simp only [Value.slice.injEq] at e
          obtain ⟨rfl, _, rfl⟩ := e
          refine run_copy_rows _ _ _ _ 5 1 _ 0 n ⟨g, 0, none⟩ n _ (bc l) Try.underlying64 (by rw [hi]; simp [z1]) (by omega) (fun j v hv => ?_) (fun j hj => hcell j (by omega)) (fun j _ => hfz _) (bc_one l)
          have hj : j < l.length := by have := (List.getElem?_eq_some_iff.1 hv).1; rwa [bc_length] at this
          have h2 := hbr.at' j hj
          simp only [vc] at h2
          rw [addr_add, t1.cell hg (fun e => e), h2, ← hv]
          simp [bc, hj]
    · exact t1.trans (G := fun k => k = W.heap.size) ⟨(setCells_rest _ _ _ _).1, (setCells_rest _ _ _ _).2.1, (setCells_rest _ _ _ _).2.2.1, by rw [(setCells_rest _ _ _ _).2.2.2]; exact Nat.le_refl _, fun k _ hk => setCells_other _ _ _ _ _ hk⟩ (fun _ _ e => e) (fun i hi e => by omega)
    · rw [(setCells_rest _ _ _ _).2.2.2]; simp
    · have hin := World.cell?_setCells_in W.heap.size (bc l) 0 (W.alloc (.cells C 5)) (fun j hj => hcell j (by omega))
      refine ⟨.inr ⟨W.heap.size, l.length, rfl, by rw [(setCells_rest _ _ _ _).2.2.2]; simp, Nat.le_refl _, by unfold maxLen; omega, fun j hj => ⟨?_, ?_⟩⟩, fun j hj => ?_⟩
      · have := hin j (by omega)
        rw [Nat.zero_add] at this
        rw [this]; rfl
      · rw [World.frozen?_setCells]; exact hfz j
      · have := hin j (by omega)
        rw [Nat.zero_add] at this
        show World.cell? _ _ = _
        rw [this]
        simp [bc]

theorem fsOf_snoc (fl : List (ByteArray × List UInt8)) (f : ByteArray × List UInt8) (h : ∀ x, (fsOf fl x).isSome = true → x < f.1.data.toList) : fsOf (fl ++ [f]) = fun x => if x = f.1.data.toList then some f.2 else fsOf fl x := by
  funext x
  have e : fsOf (fl ++ [f]) x = (fsOf fl x).or (if f.1.data.toList = x then some f.2 else none) := by
    unfold fsOf
    rw [List.find?_append]
    cases fl.find? (fun f => decide (f.1.data.toList = x)) with
    | some g => rfl
    | none =>
      simp only [Option.none_or, List.find?_cons, List.find?_nil, Option.map_none]
      by_cases hx : f.1.data.toList = x
      · simp [hx]
      · simp [hx]
  rw [e]
  by_cases hx : x = f.1.data.toList
  · rw [if_pos hx, if_pos hx.symm]
    cases hf : fsOf fl x with
    | none => rfl
    | some l =>
      have := h x (by rw [hf]; rfl)
      rw [hx] at this
      exact absurd this (List.lt_irrefl _)
  · rw [if_neg hx, if_neg (fun e => hx e.symm), Option.or_none]

theorem ROwn.no {w u u' : World} {q N : Nat} {S : St} (h : ROwn w u q N S) (t : Tn No u u') : ROwn w u' q N S := by
  obtain ⟨L, a, b, c⟩ := h
  exact ⟨L, a.no t, b.then t, c⟩
theorem ROwn.tn {w u : World} {q N : Nat} {S : St} (h : ROwn w u q N S) : Tn No w u := h.choose_spec.2.1
theorem ROwn.mono {w u : World} {q N N' : Nat} {S : St} (h : ROwn w u q N S) (hN : N ≤ N') : ROwn w u q N' S := by
  obtain ⟨L, ⟨fl, d, lv, tv, bv, hx⟩, r⟩ := h
  exact ⟨L, ⟨fl, d, lv, tv, bv, hx.mono hN⟩, r⟩

/-- the files laid so far -/
def upSt (S : St) (fl : List (ByteArray × List UInt8)) (k : Nat) : St := { S with fs := fsOf (fl.take k), tr := [] }
theorem upSt_last {fl : List (ByteArray × List UInt8)} (hup : fl.Pairwise (fun a b => a.1.data.toList < b.1.data.toList)) (S : St) (k : Nat) (hk : k < fl.length) : ∀ x, ((upSt S fl k).fs x).isSome = true → x < fl[k].1.data.toList := fun x hx => by
  simp only [upSt] at hx
  rw [← nms_mem] at hx
  obtain ⟨f, hf, rfl⟩ := List.mem_map.1 hx
  obtain ⟨j, hj, rfl⟩ := List.getElem_of_mem hf
  have hjk : j < k := by simp at hj; omega
  rw [List.getElem_take]
  exact List.pairwise_iff_getElem.1 hup j k (by omega) hk hjk
theorem upSt_step {fl : List (ByteArray × List UInt8)} (hup : fl.Pairwise (fun a b => a.1.data.toList < b.1.data.toList)) (S : St) (k : Nat) (hk : k < fl.length) : (upSt S fl k).put fl[k].1.data.toList fl[k].2 = upSt S fl (k + 1) := by
  have h := fsOf_snoc (fl.take k) fl[k] (upSt_last hup S k hk)
  unfold upSt St.put
  rw [List.take_succ_eq_append_getElem hk, h]

set_option maxHeartbeats 4000000 in
set_option maxRecDepth 100000 in
theorem rcopy_raw (w : World) (q : Nat) (L : Nat → Option Lab) (N : Nat) (S : St) (h : PR w q L N S) (hN : N + N + 1 ≤ 1099511627776) :
    Calls Try.prog 15 #[.pointer (some ⟨q, 0, none⟩)] w fun e u => ∃ q2, e = .returned (.pointer (some ⟨q2, 0, none⟩)) ∧ ROwn w u q2 (N + N) S := by
  obtain ⟨fl, d, lv, tv, bv, hx⟩ := h
  have k0 := hx.c0
  have k1 := hx.c1
  have plt := hx.qlt
  obtain ⟨a, cap, htv, hlc, hcm, hnil, hsome⟩ := hx.row.form
  have hlen := hx.len
  rw [htv] at k0
  have HX := hid hx
  have HTV := hid htv
  obtain ⟨n, hn⟩ : ∃ n, fl.length = n := ⟨_, rfl⟩
  rw [hn] at k0 hlc hnil hlen
  have HN := hid hn
  have HSOME := hid hsome
  have HNIL := hid hnil
  have HBARE := hid (ry_bare w S hx.rd)
  clear hx htv hn hcm hsome hnil
  go_enter Try.func15, Try.ntmps15
  go_wp2_with fail
  obtain ⟨st, hst⟩ : ∃ st, str (S.inp.drop S.rd) = st := ⟨_, rfl⟩
  rw [hst] at HBARE k1 ⊢
  obtain ⟨w1, hw1⟩ : ∃ w1, w.alloc (.cells #[.slice none 0 0, .string st, .slice none 0 0, .slice none 0 0] 76) = w1 := ⟨_, rfl⟩
  rw [hw1] at HBARE ⊢
  obtain ⟨q2, hq2⟩ : ∃ q2, w.heap.size = q2 := ⟨_, rfl⟩
  have HB : Hid (YOwn w w1 q2 (N + 0) (upSt S fl 0)) := hid (by
    have := HBARE.out.mono (N' := N + 0) (by omega)
    rw [hq2] at this
    exact this)
  rw [hq2]
  clear HBARE hst hw1 hq2
  go_loopw [4] (fun i wr => ∃ k : Nat, k ≤ n ∧ i = .int .i64 (k : Int) ∧ YOwn w wr q2 (N + k) (upSt S fl k)) (fun i _ => n - (intOf i).toNat)
  case atStart => exact ⟨0, by omega, rfl, HB.out⟩
  case round =>
    obtain ⟨k, hk, rfl, hy⟩ := hrel
    have tw := hy.tn
    have p0 := (tw.cell plt (fun e => e)).trans k0
    have plr : q < wr.heap.size := Nat.lt_of_lt_of_le plt tw.size
    by_cases hlt : k < n
    · cases a with
      | none => have := (HNIL.out rfl).1; omega
      | some x =>
      obtain ⟨hxe, hxl⟩ := HSOME.out x rfl
      obtain ⟨g, o, sp⟩ := x
      cases hxe
      have hkl : k < fl.length := by have := HN.out; omega
      obtain ⟨e1, e2, ebr, _, eln, enm⟩ := HX.out.lc k hkl
      have hstep := upSt_step HX.out.up S k hkl
      have hlast := upSt_last HX.out.up S k hkl
      obtain ⟨f, hf⟩ : ∃ f, fl[k] = f := ⟨_, rfl⟩
      rw [hf] at e1 ebr eln enm hstep hlast
      rw [HTV.out, Nat.mul_comm 2 k] at e1 e2
      obtain ⟨av, cv, hvs, _⟩ := ebr.rw.form
      rw [hvs] at e2 ebr
      have y1 : wr.cell? ⟨g, k * 2, none⟩ = some (.string f.1) := (tw.cell hxl (fun e => e)).trans e1
      have y2 : wr.cell? ⟨g, k * 2 + 1, none⟩ = some (.slice av f.2.length cv) := (tw.cell hxl (fun e => e)).trans e2
      obtain ⟨C, hmk, hcpy⟩ := made_copy f.2 (by omega)
      obtain ⟨W2, hcp, t2, hz2, hbr2⟩ := hcpy wr av cv (ebr.no tw)
      obtain ⟨la, ln, lc, hq20, hq2l, g', n', cap', wa, hr, hwa0, hwaz, hwal, hy'⟩ := yown_file hy t2.drew f.1 (some ⟨wr.heap.size, 0, none⟩) f.2.length f.2.length f.2 (hbr2.no (Tn.refl No W2).drew) (fun g hg => by cases hg; exact Nat.le_refl _) hlast (by omega) enm (by omega)
      rw [hstep] at hy'
      have r0 := hq20 W2 t2
      have r1 := (t2.cell plr (fun e => e)).trans p0
      have hgl : g < wr.heap.size := Nat.lt_of_lt_of_le hxl tw.size
      have r2 := (t2.cell hgl (fun e => e)).trans y1
      have r3 := (t2.cell hgl (fun e => e)).trans y2
      have hq2W : q2 < W2.heap.size := by omega
      have hqW : q < W2.heap.size := by omega
      have hgW : g < W2.heap.size := by omega
      have hwz0 := hwaz 0
      have hki : (k : Int) < (n : Int) := by omega
      have HCP := hid hcp
      have HR := hid hr
      have HY : Hid (YOwn w (wa.setCell ⟨q2, 0, none⟩ (.slice (some ⟨g', 0, none⟩) n' cap')) q2 (N + (k + 1)) (upSt S fl (k + 1))) := hid hy'
      obtain ⟨m, hm⟩ : ∃ m, f.2.length = m := ⟨_, rfl⟩
      rw [hm] at HCP hmk y2 r3 HR
      have hsz : W2.drew.heap.size = W2.heap.size := rfl
      rw [hsz, hz2] at HR
      clear hcp hr hy' hcpy hvs e1 e2 ebr eln enm hstep hlast hy hq20 hwaz hm hf hbr2 HX HTV HNIL HSOME HN
      go_wp2_with (refine wpList_cpy _ rfl _ _ _ _ rfl _ _ rfl rfl _ W2 HCP.out ?_)
      refine wp_norm 41 19 (fun wc => YOwn w wc q2 (N + (k + 1)) (upSt S fl (k + 1))) ?_ ?_
      case refine_1 =>
       intro G HG
       go_light
       go_region_law (refine wp_app rfl _ _ _ _ rfl _ _ rfl rfl _ wa HR.out ?_)
       all_goals exact ⟨HG.out _ rfl rfl rfl rfl, HY.out⟩
      case refine_2 =>
       rintro xs wc hxs hyn
       match xs, hxs with
       | [x0, x1, x2, x3, x4, x5, x6, x7, x8, x9, x10, x11, x12, x13, x14, x15, x16, x17, x18], _ =>
       simp only [List.take_succ_cons, List.take_zero, List.drop_succ_cons, List.drop_zero, List.cons_append, List.nil_append]
       go_wp2_with fail
       exact ⟨⟨k + 1, by omega, by go_num, hyn⟩, by simp [intOf]; omega⟩
    · obtain rfl : k = n := by omega
      have hfl : upSt S fl k = { S with tr := [] } := by
        unfold upSt
        rw [List.take_of_length_le (by have := HN.out; omega), ← HX.out.fs]
      rw [hfl] at hy
      have hyd := hy.no (Tn.refl No wr).drew
      obtain ⟨hq22, hq2l, g', cap', wa, hr, hwa2, hwaz, hwal, hro⟩ := yown_ds hyd d S.ds (fun i hi => by
        have t := tw.drew
        obtain ⟨x0, x1, x2⟩ := HX.out.dc i hi
        exact ⟨(t.cell HX.out.dlt (fun e => e)).trans x0, (t.cell HX.out.dlt (fun e => e)).trans x1, (t.cell HX.out.dlt (fun e => e)).trans x2⟩) (fun i hi => by have := HX.out.pl i hi; omega)
      have z2 := hq22 wr.drew (Tn.refl No _)
      have z2 : wr.cell? ⟨q2, 2, none⟩ = some (.slice none 0 0) := z2
      have p2 : wr.cell? ⟨q, 2, none⟩ = some (.slice (some ⟨d, 0, none⟩) 19 d.cap) := (tw.cell plt (fun e => e)).trans HX.out.c2
      have hq2r : q2 < wr.heap.size := hq2l
      have hwz := hwaz 2
      have HR := hid hr
      have HRO := hid hro
      have hnk : ¬ (k : Int) < (k : Int) := by omega
      have htk0 : tv = tv := rfl
      obtain ⟨ta, tcp, htv3, _⟩ := HX.out.tr.rw.form
      have HT3 := hid htv3
      have HTW := hid tw
      clear hr hro hyd hy hwaz htk0 htv3 hq22
      go_wp2_with fail
      refine wp_norm 60 12 (fun wc => ROwn w wc q2 (N + k) { S with tr := [] }) ?_ ?_
      case refine_1 =>
       intro G HG
       go_light
       go_region_law (refine wp_app rfl _ _ _ _ rfl _ _ rfl rfl _ wa HR.out ?_)
       all_goals exact ⟨HG.out _ rfl rfl rfl rfl, HRO.out⟩
      case refine_2 =>
       rintro xs wc hxs hrn
       have twc := hrn.tn
       have hrd : ROwn w wc.drew q2 (N + k) { S with tr := [] } := hrn.no (Tn.refl No wc).drew
       obtain ⟨sa, sn, sc, hs3, hsl, va, vn, vc, wb, hr3, hwb3, hwbz, hwbl, hrf⟩ := rown_tr hrd rfl tv S.tr (HX.out.tr.no twc.drew) (by have := HX.out.tlen; exact ⟨by omega, fun e he => by have := this.2 e he; omega⟩) (by omega)
       have z3 : wc.cell? ⟨q2, 3, none⟩ = some (.slice sa sn sc) := hs3 wc.drew (Tn.refl No _)
       have p3 : wc.cell? ⟨q, 3, none⟩ = some (.slice ta S.tr.length tcp) := by rw [twc.cell plt (fun e => e), HX.out.c3, HT3.out]
       have hq2c : q2 < wc.heap.size := hsl
       have hqc : q < wc.heap.size := Nat.lt_of_lt_of_le plt twc.size
       have hwz3 := hwbz 3
       rw [HT3.out] at hr3
       have HR3 := hid hr3
       have HRF : Hid (ROwn w (wb.setCell ⟨q2, 3, none⟩ (.slice va vn vc)) q2 (N + k) S) := hid hrf
       obtain ⟨ntr, hntr⟩ : ∃ ntr, S.tr.length = ntr := ⟨_, rfl⟩
       rw [hntr] at p3 HR3
       clear hr3 hrf hwbz hrd hrn hs3 HRO HR hntr twc HTW HT3 HX HTV HNIL HSOME HN z2 p2 hwz
       match xs, hxs with
       | [x0, x1, x2, x3, x4, x5, x6, x7, x8, x9, x10, x11], _ =>
       simp only [List.take_succ_cons, List.take_zero, List.drop_succ_cons, List.drop_zero, List.cons_append, List.nil_append]
       go_wp2_with fail
       refine wp_norm 72 12 (fun wd => ROwn w wd q2 (N + k) S) ?_ ?_
       case refine_1 =>
        intro G HG
        go_light
        go_region_law (refine wp_app rfl _ _ _ _ rfl _ _ rfl rfl _ wb HR3.out ?_)
        all_goals exact ⟨HG.out _ rfl rfl rfl rfl, HRF.out⟩
       case refine_2 =>
        rintro ys wd hys hrm
        match ys, hys with
        | [y0, y1, y2, y3, y4, y5, y6, y7, y8, y9, y10, y11], _ =>
        simp only [List.take_succ_cons, List.take_zero, List.drop_succ_cons, List.drop_zero, List.cons_append, List.nil_append]
        go_wp2_with fail
        go_ret
        exact ⟨q2, rfl, hrm.mono (by omega)⟩
end Go.Proofs.Ytkbdgdcicflocaa
