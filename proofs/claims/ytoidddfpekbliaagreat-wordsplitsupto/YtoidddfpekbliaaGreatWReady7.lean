/-
  word: a function's instructions made ready: the walk.
-/
import Derived.Test.YtoidddfpekbliaaGreatWJ30
namespace Go.Proofs.YtoidddfpekbliaaGreat
set_option linter.unusedSimpArgs false
set_option linter.unusedVariables false
open Go.RowKit
attribute [local go_sem ↓] Go.wp_at_zero Go.wp_at_succ

/-- what the first loop keeps -/
structure RC1 (w : World) (pg mb n : Nat) (m : Int → Option Nat) (l : List Wd) (q : Nat) (wr : World) : Prop where
  cb : ∃ c, CB wr pg n c ∧ ∀ i, i < q → c i = .int .i32 ((nl (l.take i)).length : Int)
  mp : IM .i64 3 wr mb n m
  tn : Tn No w wr
theorem RC1.no {w : World} {pg mb n : Nat} {m : Int → Option Nat} {l : List Wd} {q : Nat} {wr w' : World} (h : RC1 w pg mb n m l q wr) (t : Tn No wr w') : RC1 w pg mb n m l q w' := by
  obtain ⟨c, h1, h2⟩ := h.cb
  exact ⟨⟨c, h1.kept (t.block _ h1.lt (fun e => e)), h2⟩, h.mp.kept (t.block _ h.mp.lt (fun e => e)), h.tn.then t⟩
theorem RC1.set {w : World} {pg mb n : Nat} {m : Int → Option Nat} {l : List Wd} {q : Nat} {wr : World} (h : RC1 w pg mb n m l q wr) (hq : q < n) (hpg : w.heap.size ≤ pg) (hne : mb ≠ pg) : RC1 w pg mb n m l (q + 1) (wr.setCell ⟨pg, q, none⟩ (.int .i32 ((nl (l.take q)).length : Int))) := by
  obtain ⟨c, h1, h2⟩ := h.cb
  refine ⟨⟨_, h1.set q hq _, fun i hi => ?_⟩, h.mp.kept (Below.heap_setCell _ _ _ _ hne), h.tn.set _ _ (fun hlt => ?_)⟩
  · by_cases e : i = q
    · subst e; exact upd_same _ _ _
    · rw [upd_other _ _ e]; exact h2 i (by omega)
  · simp only at hlt; omega

theorem nl_take {l : List Wd} {q : Nat} (hq : q < l.length) : nl (l.take (q + 1)) = if l[q].k = 19 then nl (l.take q) else nl (l.take q) ++ [l[q]] := by
  rw [List.take_add_one, List.getElem?_eq_getElem hq, nl_append]
  split
  · rename_i h; simp [nl, h]
  · rename_i h; simp [nl, h]

set_option maxHeartbeats 8000000 in
set_option maxRecDepth 100000 in
theorem readyCode_raw (cv : Value) (l : List Wd) (fs : List Wf) (regs slots most : Int) (w : World) (h : LD 11 eW w cv l) (hA : ∀ x ∈ l, WA w x) (hl0 : 0 < l.length) (hl : l.length ≤ 4194304) (hlab : labsF l 0 (fun _ => none) = some (labM l)) (hX : ∀ x ∈ l, XOk fs regs slots most (labM l) x) (hr : regs ≤ 65536) (hfs : fs.length ≤ 1073741824) :
    Calls Tryz.prog 72 #[cv] w fun e w' => ∃ v, e = .returned v ∧ LR 11 eQ w' v (readyC l) ∧ Tn No w w' ∧ ∀ g, v.ownBlock = some g → w.heap.size ≤ g := by
  have HLB := hid (labels_raw cv l w h (fun x hx => ⟨(hA x hx).ok.2.2.2.2.1, (hA x hx).args.form⟩) (by omega))
  rw [hlab] at HLB
  have HFO : Hid (∀ x ∈ l, ∃ a c, x.av = .slice a x.args.length c) := hid (fun x hx => (hA x hx).args.form)
  have HPL : Hid (∀ i (hi : i < (placesL l).length), (placesL l)[i] = ((nl (l.take i)).length : Int)) := hid (fun i hi => by simp [placesL])
  have hpl : (placesL l).length = l.length := by simp [placesL]
  have HMY : Hid (∀ z y, labM l z = some y → y < l.length) := hid (fun z y hy => by
    rcases labsF_at l 0 _ _ hlab z y hy with h0 | ⟨j, e, hj, _⟩
    · cases h0
    · omega)
  have HRD : Hid (readyC l = (nl l).map (readyW (labM l) (placesL l))) := hid rfl
  obtain ⟨mp, hmp⟩ : ∃ mp, labM l = mp := ⟨_, rfl⟩
  obtain ⟨pls, hpls⟩ : ∃ pls, placesL l = pls := ⟨_, rfl⟩
  have hRW : ∀ (nn : Nat), l.length = nn → ∀ (mb pg : Nat) (q : Nat) (hq : q < l.length) (v : Value) (rs : List RCode) (wr : World), RC2 w pg mb nn mp pls v rs wr → ∀ u, Tn No wr u → Calls Tryz.prog 115 #[l[q].val, .map (some mb), .slice (some ⟨pg, 0, none⟩) nn nn] u fun e w' => e = .returned (rcV (readyW mp pls l[q])) ∧ Tn No u w' := fun nn hnn mb pg q hq v rs wr hc u t => by
    subst hnn
    have hc2 := hc.no t
    refine rword_raw l[q] fs regs slots most mp pls mb pg l.length l.length u ((hA _ (List.getElem_mem hq)).no hc2.tn) (by have := hX _ (List.getElem_mem hq); rw [hmp] at this; exact this) hr hfs (fun u' t' => (hc2.no t').mp) (by rw [← hpls]; exact hpl) (by omega) (fun u' t' => (hc2.no t').pl) (fun z y hy => HMY.out z y (by rw [hmp]; exact hy))
  rw [hmp] at HLB HRD
  rw [hpls] at HPL hpl HRD
  have hcnt : ∀ q, (nl (l.take q)).length ≤ q := fun q => Nat.le_trans (nl_le _) (by simp; omega)
  have HCN := hid hcnt
  have HPL2 := hid hpl
  clear hpl
  obtain ⟨a, c, rfl, hc, hcm, hat⟩ := h
  have HAT := hid hat
  obtain ⟨n, hn⟩ : ∃ n, l.length = n := ⟨_, rfl⟩
  have HN := hid hn
  have HRW := hid (hRW n hn)
  clear hRW hX hA hlab HMY hmp hpls
  rw [hn] at hc hl hl0 HLB
  rw [hn]
  obtain ⟨MP, hMP, hmk⟩ := make_places n (by omega)
  have hNL : (nl l).length ≤ n := by have := nl_le l; omega
  obtain ⟨K, hK⟩ : ∃ K, (nl l).length = K := ⟨_, rfl⟩
  rw [hK] at hNL
  have HK := hid hK
  obtain ⟨MC, hmc⟩ := make_codes K (by omega)
  have hmc1 := fun W => (hmc W).1
  have HMC := hid (fun W => (hmc W).2)
  have HT0 : Hid (Tn No w w) := hid (Tn.refl _ _)
  clear hat hcnt hn hK hmc hcm
  have HMP := hid hMP
  clear hMP
  go_enter Tryz.func72, Tryz.ntmps72
  go_wp2_with (first
    | (go_at_call 95; refine HLB.out.mono ?_; rintro e w1 ⟨t1, mb, rfl, hmb, him⟩; have HT1 := hid t1; have HIM := hid him; clear t1 him))
  have HR1 : Hid (RC1 w w1.heap.size mb n mp l 0 (w1.alloc (.cells MP 21))) := hid (by
    refine ⟨⟨_, by rw [← HMP.out]; exact CB.new w1 MP 21, fun i hi => by omega⟩, HIM.out.kept (Below.heap_alloc _ _ _ HIM.out.lt), HT1.out.alloc _⟩)
  have hpgw : w.heap.size ≤ w1.heap.size := HT1.out.size
  have hmbl : mb < w1.heap.size := HIM.out.lt
  have hz1 : w1.heap.size < (w1.alloc (.cells MP 21)).heap.size := by simp
  clear HLB
  go_loopw [6, 22] (fun cv iv wr => ∃ q : Nat, q ≤ n ∧ iv = .int .i64 (q : Int) ∧ (∃ k : Nat, cv = .int .i32 (k : Int) ∧ k ≤ q ∧ Hid ((nl (l.take q)).length = k)) ∧ Hid (RC1 w w1.heap.size mb n mp l q wr) ∧ w1.heap.size < wr.heap.size) (fun _ iv _ => n - (intOf iv).toNat)
  case atStart => exact ⟨0, by omega, rfl, ⟨0, rfl, by omega, hid rfl⟩, HR1, hz1⟩
  case round =>
    obtain ⟨q, hq, rfl, ⟨k, rfl, hkq, HKQ⟩, HR, hzr⟩ := hrel
    clear HR1 hz1
    by_cases hlt : q < n
    · have hql : q < l.length := by have := HN.out; omega
      obtain ⟨g, o, rfl, hg, hcell⟩ := HAT.out (by omega)
      have hcr : ∀ i (hi : i < l.length) j, j < 11 → wr.cell? ⟨g, o + (i * 11 + j), none⟩ = (eW l[i])[j]? := fun i hi j hj => by rw [HR.out.tn.cell hg (fun e => e)]; exact hcell i hi j hj
      obtain ⟨q0, q1, q2, q3, q4, q5, q6, q7, q8, q9, q10⟩ := word_cells hcr q hql
      obtain ⟨va, vc', hxv⟩ := HFO.out l[q] (List.getElem_mem hql)
      have HST := hid (nl_take hql)
      obtain ⟨x, hx⟩ : ∃ x, l[q] = x := ⟨_, rfl⟩
      rw [hx] at q0 q1 q2 q3 q4 q5 q6 q7 q8 q9 q10 hxv HST
      obtain ⟨xk, xd, xa, xb, xl, xf, xc, xr, xs, xi, xv, xargs⟩ := x
      simp only at q0 q1 q2 q3 q4 q5 q6 q7 q8 q9 q10 hxv HST
      subst hxv
      generalize xargs.length = vn at q10 HST
      have hqi : (q : Int) < (n : Int) := by omega
      have HRS : Hid (∀ o, Hid (RC1 w w1.heap.size mb n mp l (q + 1) ((wr.setCell ⟨w1.heap.size, q, none⟩ (.int .i32 (k : Int))).alloc o))) := hid (fun o => hid (by
        have := HR.out.set (q := q) hlt hpgw (by omega)
        rw [HKQ.out] at this
        exact this.no ((Tn.refl No _).alloc o)))
      obtain ⟨cF, hcb, _⟩ := HR.out.cb
      have pc := hcb.cell q hlt
      have pf := hcb.froz q
      have hne1 : ¬ (wr.heap.size = w1.heap.size) := by omega
      have hne2 : ¬ (w1.heap.size = wr.heap.size) := by omega
      have HZS : Hid (∀ o v, w1.heap.size < ((wr.setCell ⟨w1.heap.size, q, none⟩ v).alloc o).heap.size) := hid (fun o v => by simp; omega)
      clear hcr hx hcell HAT HFO hg hcb HR HPL HRW HCN
      by_cases hk : xk = 19
      · subst hk
        have HKN : Hid ((nl (l.take (q + 1))).length = k) := hid (by rw [HST.out]; simpa using HKQ.out)
        clear HST HKQ
        go_wp2_with fail
        go_roundw
        case rel => exact ⟨q + 1, by omega, by go_num, ⟨k, rfl, by omega, HKN⟩, HRS.out _, HZS.out _ _⟩
        case measure => simp [intOf]; omega
      · have nk : (xk == 19) = false := by simpa using hk
        have HKN : Hid ((nl (l.take (q + 1))).length = k + 1) := hid (by rw [HST.out, if_neg hk, List.length_append, HKQ.out]; rfl)
        clear HST HKQ hk
        go_wp2_with fail
        go_roundw
        case rel => exact ⟨q + 1, by omega, by go_num, ⟨k + 1, by go_num, by omega, HKN⟩, HRS.out _, HZS.out _ _⟩
        case measure => simp [intOf]; omega
    · obtain rfl : q = n := by omega
      have hkK : k = K := by have := HKQ.out; have h2 := HK.out; rw [List.take_of_length_le (by have := HN.out; omega)] at this; omega
      subst hkK
      have HPV : Hid (∀ i (hi : i < pls.length), wr.cell? ⟨w1.heap.size, i, none⟩ = some (.int .i32 pls[i])) := hid (fun i hi => by
        obtain ⟨cF, hcb, hcF⟩ := HR.out.cb
        have : i < q := by have := HPL2.out; have := HN.out; omega
        rw [hcb.cell i this, hcF i this, HPL.out i hi])
      have HR2 : Hid (RC2 w w1.heap.size mb q mp pls (.slice (some ⟨wr.heap.size, 0, none⟩) 0 k) [] (wr.alloc (.cells MC 180))) := hid (by
        refine ⟨HMC.out wr, fun g hg => ?_, fun i hi => ?_, HR.out.mp.kept (Below.heap_alloc _ _ _ HR.out.mp.lt), by simp; omega, HR.out.tn.alloc _⟩
        · have hgw : g = wr.heap.size := by simpa [Value.ownBlock] using hg.symm
          subst hgw
          exact ⟨HR.out.tn.size, by omega, by omega⟩
        · rw [World.cell?_of_block (w := wr) (a := ⟨w1.heap.size, i, none⟩) (Below.heap_alloc _ _ _ hzr)]
          exact HPV.out i hi)
      clear HPV HR HKQ
      obtain ⟨wa, hwa⟩ : ∃ wa, wa = wr := ⟨wr, rfl⟩
      subst hwa
      go_wp2_with fail
      go_loopw [9, 41] (fun ov iv wr2 => ∃ j : Nat, j ≤ q ∧ iv = .int .i64 (j : Int) ∧ ∃ v, v = ov ∧ Hid (RC2 w w1.heap.size mb q mp pls v ((nl (l.take j)).map (readyW mp pls)) wr2)) (fun _ iv _ => q - (intOf iv).toNat)
      case atStart => exact ⟨0, by omega, rfl, _, rfl, HR2⟩
      case round =>
        obtain ⟨j, hj, rfl, ov, rfl, HR⟩ := hrel
        clear HR2
        by_cases hlt2 : j < q
        · have hql : j < l.length := by have := HN.out; omega
          obtain ⟨g, o, rfl, hg, hcell⟩ := HAT.out (by omega)
          have hcr : ∀ i (hi : i < l.length) jj, jj < 11 → wr.cell? ⟨g, o + (i * 11 + jj), none⟩ = (eW l[i])[jj]? := fun i hi jj hjj => by rw [HR.out.tn.cell hg (fun e => e)]; exact hcell i hi jj hjj
          obtain ⟨q0, q1, q2, q3, q4, q5, q6, q7, q8, q9, q10⟩ := word_cells hcr j hql
          obtain ⟨va, vc', hxv⟩ := HFO.out l[j] (List.getElem_mem hql)
          have HST := hid (nl_take hql)
          have hcall := HRW.out mb w1.heap.size j hql ov _ wr HR.out
          have hcn := HCN.out j
          obtain ⟨x, hx⟩ : ∃ x, l[j] = x := ⟨_, rfl⟩
          rw [hx] at q0 q1 q2 q3 q4 q5 q6 q7 q8 q9 q10 hxv HST hcall
          obtain ⟨Q, hQ⟩ : ∃ Q, readyW mp pls x = Q := ⟨_, rfl⟩
          rw [hQ] at hcall
          have HQ := hid hQ
          obtain ⟨xk, xd, xa, xb, xl, xf, xc, xr, xs, xi, xv, xargs⟩ := x
          simp only [Wd.val] at q0 q1 q2 q3 q4 q5 q6 q7 q8 q9 q10 hxv hcall
          subst hxv
          clear hcr hx hcell HAT HFO hg HPL HRW HCN hQ
          have HCALL := hid (hcall (wr.alloc (.cells #[.int .i64 xk, .int .i64 xd, .int .i64 xa, .int .i64 xb, .int .i64 xl, .int .i64 xf, .int .i64 xc, .int .i64 xr, .int .i64 xs, .int .i64 xi, .slice va xargs.length vc'] 79)) ((Tn.refl No wr).alloc _))
          have hji : (j : Int) < (q : Int) := by omega
          by_cases hk : xk = 19
          · subst hk
            have HRN : Hid (∀ o, Hid (RC2 w w1.heap.size mb q mp pls ov ((nl (l.take (j + 1))).map (readyW mp pls)) (wr.alloc o))) := hid (fun o => hid (by rw [HST.out]; exact HR.out.no ((Tn.refl No wr).alloc o)))
            clear HST HR HCALL hcall HQ
            generalize xargs.length = vn at *
            go_wp2_with fail
            go_roundw
            case rel => exact ⟨j + 1, by omega, by go_num, _, rfl, HRN.out _⟩
            case measure => simp [intOf]; omega
          · have nk : (xk == 19) = false := by simpa using hk
            have HPS : Hid (∀ w5, Tn No (wr.alloc (.cells #[.int .i64 xk, .int .i64 xd, .int .i64 xa, .int .i64 xb, .int .i64 xl, .int .i64 xf, .int .i64 xc, .int .i64 xr, .int .i64 xs, .int .i64 xi, .slice va xargs.length vc'] 79)) w5 →
                ∃ v' w6, (Builtin.append_ #[119, 119] 119 #[ov, .slice (some ⟨w5.heap.size, 0, none⟩) 1 1]).run Tryz.prog (w5.alloc (.cells #[.int .u8 (Q.kind : Int), .int .u8 (Q.how : Int), .int .u8 (Q.count : Int), .int .u32 (Q.d : Int), .int .i32 Q.to_, .int .u64 Q.imm, .int .u32 (Q.frm 0 : Int), .int .u32 (Q.frm 1 : Int), .int .u32 (Q.frm 2 : Int), .int .u32 (Q.frm 3 : Int), .int .u32 (Q.frm 4 : Int)] 180)) = .ok v' w6 ∧ Hid (RC2 w w1.heap.size mb q mp pls v' ((nl (l.take (j + 1))).map (readyW mp pls)) w6)) := hid (fun w5 t5 => by
              have hc5 := HR.out.no (((Tn.refl No wr).alloc _).then t5)
              obtain ⟨v', w6, h1, h2⟩ := (hc5.no ((Tn.refl No w5).alloc (.cells #[.int .u8 (Q.kind : Int), .int .u8 (Q.how : Int), .int .u8 (Q.count : Int), .int .u32 (Q.d : Int), .int .i32 Q.to_, .int .u64 Q.imm, .int .u32 (Q.frm 0 : Int), .int .u32 (Q.frm 1 : Int), .int .u32 (Q.frm 2 : Int), .int .u32 (Q.frm 3 : Int), .int .u32 (Q.frm 4 : Int)] 180))).push Q w5.heap.size (fun jj u hu => by
                have : (w5.alloc (.cells #[.int .u8 (Q.kind : Int), .int .u8 (Q.how : Int), .int .u8 (Q.count : Int), .int .u32 (Q.d : Int), .int .i32 Q.to_, .int .u64 Q.imm, .int .u32 (Q.frm 0 : Int), .int .u32 (Q.frm 1 : Int), .int .u32 (Q.frm 2 : Int), .int .u32 (Q.frm 3 : Int), .int .u32 (Q.frm 4 : Int)] 180)).cell? ⟨w5.heap.size, jj, none⟩ = #[.int .u8 (Q.kind : Int), .int .u8 (Q.how : Int), .int .u8 (Q.count : Int), .int .u32 (Q.d : Int), .int .i32 Q.to_, .int .u64 Q.imm, .int .u32 (Q.frm 0 : Int), .int .u32 (Q.frm 1 : Int), .int .u32 (Q.frm 2 : Int), .int .u32 (Q.frm 3 : Int), .int .u32 (Q.frm 4 : Int)][jj]? := World.cell?_alloc_mark _ _ _ _ jj
                rw [this, ← hu]
                simp [eQ]) (by simp; omega)
              refine ⟨v', w6, h1, hid ?_⟩
              rw [HST.out, if_neg hk, List.map_append, List.map_singleton, HQ.out]
              exact h2)
            simp only [rcV, rcVal] at HCALL
            clear HST HR HQ hcall hk
            generalize xargs.length = vn at *
            go_wp2_with (first
              | (go_at_call 115; refine HCALL.out.mono ?_; rintro e w5 ⟨rfl, t5⟩; obtain ⟨v', w6, hrun, HRN⟩ := HPS.out w5 t5; have HRUN := hid hrun; clear hrun t5)
              | (at_builtin; refine wpList_app _ rfl _ _ _ _ rfl _ _ rfl rfl v' w6 HRUN.out ?_))
            go_roundw
            case rel => exact ⟨j + 1, by omega, by go_num, _, rfl, HRN⟩
            case measure => simp [intOf]; omega
        · obtain rfl : j = q := by omega
          have HE : Hid (LR 11 eQ wr ov (readyC l) ∧ Tn No w wr ∧ ∀ g, ov.ownBlock = some g → w.heap.size ≤ g) := hid (by
            rw [HRD.out]
            have := HR.out
            rw [List.take_of_length_le (by have := HN.out; omega)] at this
            exact ⟨this.out, this.tn, fun g hg => (this.own g hg).1⟩)
          clear HAT HFO HRW HR
          go_wp2_with fail
          go_ret
          exact ⟨_, rfl, HE.out⟩
end Go.Proofs.YtoidddfpekbliaaGreat
