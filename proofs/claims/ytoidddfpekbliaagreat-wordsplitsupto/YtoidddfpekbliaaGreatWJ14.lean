/-
  word: may a program be?
-/
import Derived.Test.YtoidddfpekbliaaGreatWCodeC
import Derived.Test.YtoidddfpekbliaaGreatWJ09
namespace Go.Proofs.YtoidddfpekbliaaGreat
set_option linter.unusedSimpArgs false
set_option linter.unusedVariables false
open Go.RowKit
attribute [local go_sem ↓] Go.wp_at_zero Go.wp_at_succ

theorem LD.form {α : Type} {size : Nat} {en : α → List Value} {w : World} {v : Value} {l : List α} (h : LD size en w v l) : ∃ a c, v = .slice a l.length c := by
  obtain ⟨a, c, e, _⟩ := h
  exact ⟨a, c, e⟩

theorem firstF_eq {l : List Wf} (h : 0 < l.length) : firstF l = decide (l[0].params = 0) := by
  cases l with
  | nil => simp at h
  | cons a r => rfl

theorem codeB_raw (p : Wp) (f : Wf) (w : World) (hp : PgA w p) (hf : FA w f) (hh : headF f = true) (hd : dataF p = true) :
    Calls Tryz.prog 62 #[p.val, f.val] w fun e w' => e = .returned (.bool (codeF p.funs ((p.data.length : Int) + p.zero) f)) ∧ Tn No w w' := by
  simp only [headF, Bool.and_eq_true, decide_eq_true_eq] at hh
  simp only [dataF, Bool.and_eq_true, decide_eq_true_eq] at hd
  obtain ⟨⟨⟨⟨⟨h1, h2⟩, h3⟩, h4⟩, h5⟩, h6⟩ := hh
  obtain ⟨d1, d2⟩ := hd
  have HP := fun x (hx : x ∈ f.code) u (t : Tn No w u) => places_raw f x u ((hf.each x hx).no t) (by omega) h4
  have HI := fun x (hx : x ∈ f.code) u => imm_raw p f x u hp.data.form (hf.each x hx).ok.2.2.2.2.2.2.2.2.2 d1 (by omega) h5 h6
  have HC := fun x (hx : x ∈ f.code) u (t : Tn No w u) => called_raw p x u (hp.funs.no t) hp.len (hf.each x hx).args.form (hf.each x hx).len
  have HLB := fun u (t : Tn No w u) => labels_raw f.cv f.code u (hf.code.no t) (fun x hx => ⟨(hf.each x hx).ok.2.2.2.2.1, (hf.each x hx).args.form⟩) hf.len
  have HLO := fun x (hx : x ∈ f.code) => (hf.each x hx).ok.2.2.2.2.1
  have HFO := fun x (hx : x ∈ f.code) => (hf.each x hx).args.form
  obtain ⟨fv, funs, dv, data, zero⟩ := p
  obtain ⟨name, params, regs, slots, cv, code⟩ := f
  have hfu := hp.funs.form
  have hda := hp.data.form
  have hcl := hf.len
  have hco := hf.code
  simp only at *
  obtain ⟨fd, fc, rfl⟩ := hfu
  obtain ⟨da, dc, rfl⟩ := hda
  obtain ⟨ca, cc, rfl, _, _, hat⟩ := hco
  simp only [Wp.val, Wf.val] at *
  by_cases h0 : code = []
  · subst h0
    exact code_empty fd funs.length fc da data.length dc zero name params regs slots ca cc w
  · have hn : 0 < code.length := by
      cases code with
      | nil => exact absurd rfl h0
      | cons a r => simp
    obtain ⟨g, o, rfl, hg, hcell⟩ := hat hn
    have hk : w.cell? ⟨g, o + (code.length - 1) * 11, none⟩ = some (.int .i64 (code[code.length - 1]'(by omega)).k) := by
      have := hcell (code.length - 1) (by omega) 0 (by omega)
      rw [Nat.add_zero] at this
      exact this
    have hlast : lastF code = leavesF (code[code.length - 1]'(by omega)).k := by
      unfold lastF
      rw [List.getLast?_eq_getElem?, List.getElem?_eq_getElem (by omega)]
    obtain ⟨k, hkk⟩ : ∃ k, (code[code.length - 1]'(by omega)).k = k := ⟨_, rfl⟩
    rw [hkk] at hk hlast
    unfold codeF
    simp only
    rw [hlast]
    by_cases hlv : leavesF k = true
    · rw [hlv, Bool.true_and]
      unfold LabPost at HLB
      cases hm : labsF code 0 (fun _ => none) with
      | none =>
        rw [hm] at HLB
        exact code_twice fd funs.length fc da data.length dc zero name params regs slots _ code.length cc w g o rfl hg hn hcl k hk hlv (fun u t => (HLB u t).mono (fun e w' h => ⟨h.2, h.1⟩))
      | some m =>
        rw [hm] at HLB
        exact code_main fd funs.length fc da data.length dc zero name params regs slots _ code.length cc w funs code rfl g o rfl hg hcell hn hcl k hk hlv m HLB (fun x hx => ⟨fun u t => HP x hx u t, fun u _ => HI x hx u, fun u t => HC x hx u t, HLO x hx, HFO x hx⟩)
    · have hlv : leavesF k = false := by simpa using hlv
      rw [hlv, Bool.false_and]
      exact code_last fd funs.length fc da data.length dc zero name params regs slots _ code.length cc w g o rfl hg hn hcl k hk hlv

/-- what is asked of each function -/
def oneF (p : Wp) (f : Wf) : Bool := headF f && codeF p.funs ((p.data.length : Int) + p.zero) f

set_option maxHeartbeats 4000000 in
set_option maxRecDepth 100000 in
theorem mayBe_raw (p : Wp) (w : World) (hp : PgA w p) : Calls Tryz.prog 32 #[p.val] w fun e w' => e = .returned (.bool (mayP p)) ∧ Tn No w w' := by
  have HD := hid (fun u => dataB_raw p u hp.data.form hp.dlen)
  have HL : Hid (∀ u, Tn No w u → Calls Tryz.prog 60 #[p.val] u fun e w' => e = .returned (.bool (linesF p.funs)) ∧ Tn No u w') := hid (fun u t => lines_raw p u (hp.funs.no t) (fun f hf => ⟨(hp.each f hf).code.form, (hp.each f hf).len⟩) hp.len (by obtain ⟨a, c, e⟩ := hp.data.form; exact ⟨a, _, c, e⟩))
  have HH := hid (fun f u => head_raw f u)
  have HC : Hid (dataF p = true → ∀ f ∈ p.funs, headF f = true → ∀ u, Tn No w u → Calls Tryz.prog 62 #[p.val, f.val] u fun e w' => e = .returned (.bool (codeF p.funs ((p.data.length : Int) + p.zero) f)) ∧ Tn No u w') := hid (fun hd f hf hh u t => codeB_raw p f u (hp.no t) ((hp.each f hf).no t) hh hd)
  have HFO : Hid (∀ f ∈ p.funs, ∃ a c, f.cv = .slice a f.code.length c) := hid (fun f hf => (hp.each f hf).code.form)
  have HMP : Hid (mayP p = (firstF p.funs && dataF p && linesF p.funs && p.funs.all (oneF p))) := hid rfl
  have hdf := hp.data.form
  have hfl := hp.len
  obtain ⟨R, hR⟩ : ∃ R, mayP p = R := ⟨_, rfl⟩
  rw [hR] at HMP ⊢
  obtain ⟨bd, hbd⟩ : ∃ b, dataF p = b := ⟨_, rfl⟩
  obtain ⟨bl, hbl⟩ : ∃ b, linesF p.funs = b := ⟨_, rfl⟩
  obtain ⟨ba, hba⟩ : ∃ b, p.funs.all (oneF p) = b := ⟨_, rfl⟩
  have HBA := hid hba
  rw [hbd] at HD HMP HC
  rw [hbl] at HL HMP
  rw [hba] at HMP
  have hON : ∀ f, oneF p f = (headF f && codeF p.funs ((p.data.length : Int) + p.zero) f) := fun f => rfl
  obtain ⟨O, hO⟩ : ∃ O, oneF p = O := ⟨_, rfl⟩
  have HON := hid hON
  rw [hO] at HBA HON
  obtain ⟨most, hmo⟩ : ∃ most, (p.data.length : Int) + p.zero = most := ⟨_, rfl⟩
  rw [hmo] at HC HON
  obtain ⟨fv, funs, dv, data, zero⟩ := p
  have hpf := hp.funs
  simp only [Wp.val] at *
  obtain ⟨da, dc, rfl⟩ := hdf
  obtain ⟨fd, fc, rfl, hfc, hfm, hat⟩ := hpf
  generalize data.length = dn at *
  have HAT := hid hat
  obtain ⟨fn, hfn⟩ : ∃ fn, funs.length = fn := ⟨_, rfl⟩
  have HN := hid hfn
  rw [hfn] at hfc hfl HD HL HC
  rw [hfn]
  have HBX : Hid (∀ u, Tn No (w.alloc (.cells #[.slice fd fn fc, .slice da dn dc, .int .i64 zero] 25)) u → u.cell? ⟨w.heap.size, 0, none⟩ = some (.slice fd fn fc) ∧ u.cell? ⟨w.heap.size, 1, none⟩ = some (.slice da dn dc) ∧ u.cell? ⟨w.heap.size, 2, none⟩ = some (.int .i64 zero) ∧ w.heap.size < u.heap.size ∧ Tn No w u) := hid (fun u t => by
    have ex : ∀ i, u.cell? ⟨w.heap.size, i, none⟩ = #[.slice fd fn fc, .slice da dn dc, .int .i64 zero][i]? := fun i => by
      rw [t.cell (by simp) (fun e => e)]
      exact World.cell?_alloc_mark _ _ _ _ i
    exact ⟨ex 0, ex 1, ex 2, by have := t.size; simp at this; omega, ((Tn.refl No w).alloc _).then t⟩)
  have T0 : Tn No (w.alloc (.cells #[.slice fd fn fc, .slice da dn dc, .int .i64 zero] 25)) (w.alloc (.cells #[.slice fd fn fc, .slice da dn dc, .int .i64 zero] 25)) := Tn.refl _ _
  obtain ⟨p0, p1, p2, pz, tw⟩ := HBX.out _ T0
  have HTW := hid tw
  clear hat hp hbd hbl hba hmo hfn hO hR hON tw
  by_cases h0 : fn = 0
  · subst h0
    have HF : Hid (R = false) := hid (by
      rw [HMP.out]
      have : funs = [] := List.length_eq_zero_iff.1 HN.out
      subst this; rfl)
    clear HD HL HH HC HFO HMP HBA HON HAT HN HBX T0
    go_enter Tryz.func32, Tryz.ntmps32
    go_wp2_with fail
    go_ret
    exact ⟨ret_bool HF.out.symm, HTW.out⟩
  · have hfp : 0 < fn := by omega
    obtain ⟨g, o, rfl, hg, hcell⟩ := HAT.out (by have := HN.out; omega)
    have hf0 : 0 < funs.length := by have := HN.out; omega
    obtain ⟨c0, c1, c2, c3, c4⟩ := fun_cells hcell 0 hf0
    have hc1 : (w.alloc (.cells #[.slice (some ⟨g, o, none⟩) fn fc, .slice da dn dc, .int .i64 zero] 25)).cell? ⟨g, o + 1, none⟩ = some (.int .i64 funs[0].params) := by
      rw [HTW.out.cell hg (fun e => e)]
      rw [Nat.zero_mul, Nat.add_zero] at c1
      exact c1
    have HFR : Hid (firstF funs = decide (funs[0].params = 0)) := hid (firstF_eq hf0)
    obtain ⟨pr, hpr⟩ : ∃ pr, funs[0].params = pr := ⟨_, rfl⟩
    rw [hpr] at hc1 HFR
    have hfn0 : ((fn : Int) == 0) = false := by simp; omega
    have HG := hid hg
    clear c0 c1 c2 c3 c4 hpr hf0
    by_cases hp0 : pr = 0
    · have hp0' : (pr != 0) = false := by simpa using hp0
      have HFR2 : Hid (firstF funs = true) := hid (by rw [HFR.out]; simpa using hp0)
      rw [HFR2.out] at HMP
      clear HFR HFR2 hp0
      cases bd with
      | false =>
        have HF : Hid (R = false) := hid (by rw [HMP.out]; rfl)
        clear HL HH HC HFO HMP HBA HON HAT HN
        go_enter Tryz.func32, Tryz.ntmps32
        go_wp2_with (first
          | (go_at_call 59; refine (HD.out _).mono ?_; rintro e w2 ⟨rfl, t2⟩; obtain ⟨p0, p1, p2, pz, tw2⟩ := HBX.out w2 t2))
        go_ret
        exact ⟨ret_bool HF.out.symm, tw2⟩
      | true =>
      cases bl with
      | false =>
        have HF : Hid (R = false) := hid (by rw [HMP.out]; rfl)
        clear HH HC HFO HMP HBA HON HAT HN
        go_enter Tryz.func32, Tryz.ntmps32
        go_wp2_with (first
          | (go_at_call 59; refine (HD.out _).mono ?_; rintro e w2 ⟨rfl, t2⟩; obtain ⟨p0, p1, p2, pz, tw2⟩ := HBX.out w2 t2)
          | (go_at_call 60; refine (HL.out w2 tw2).mono ?_; rintro e w3 ⟨rfl, t3'⟩; have t3 := t2.then t3'; obtain ⟨p0, p1, p2, pz, tw3⟩ := HBX.out w3 t3))
        go_ret
        exact ⟨ret_bool HF.out.symm, tw3⟩
      | true =>
        have HR : Hid (R = ba) := hid (by rw [HMP.out]; simp)
        have HC2 := hid (HC.out rfl)
        clear HMP HC
        go_enter Tryz.func32, Tryz.ntmps32
        go_wp2_with (first
          | (go_at_call 59; refine (HD.out _).mono ?_; rintro e w2 ⟨rfl, t2⟩; obtain ⟨p0, p1, p2, pz, tw2⟩ := HBX.out w2 t2)
          | (go_at_call 60; refine (HL.out w2 tw2).mono ?_; rintro e w3 ⟨rfl, t3'⟩; have t3 := t2.then t3'; obtain ⟨p0, p1, p2, pz, tw3⟩ := HBX.out w3 t3))
        go_loopw [30] (fun i wr => ∃ q : Nat, q ≤ fn ∧ i = .int .i64 (q : Int) ∧ Hid ((funs.take q).all O = true) ∧ Hid (Tn No w3 wr)) (fun i _ => fn - (intOf i).toNat)
        case atStart => exact ⟨0, by omega, rfl, hid rfl, hid (Tn.refl _ _)⟩
        case round =>
          obtain ⟨q, hq, rfl, HAL, HTR⟩ := hrel
          have HT3 := hid t3
          clear HD HL T0 t2 tw2 t3' tw3 t3 p0 p1 p2 pz hc1
          obtain ⟨p0, p1, p2, pz, twr⟩ := HBX.out wr (HT3.out.then HTR.out)
          have HTWR := hid twr
          by_cases hlt : q < fn
          · have hql : q < funs.length := by have := HN.out; omega
            have hcr : ∀ i (hi : i < funs.length) j, j < 5 → wr.cell? ⟨g, o + (i * 5 + j), none⟩ = (eF funs[i])[j]? := fun i hi j hj => by rw [HTWR.out.cell HG.out (fun e => e)]; exact hcell i hi j hj
            obtain ⟨q0, q1, q2, q3, q4⟩ := fun_cells hcr q hql
            have hmem : funs[q] ∈ funs := List.getElem_mem hql
            obtain ⟨va, vc', hxv⟩ := HFO.out funs[q] hmem
            have hhd := HH.out funs[q]
            have hcd := HC2.out funs[q] hmem
            have HY : Hid (O funs[q] = true → (funs.take (q + 1)).all O = true) := hid (fun e => all_take_succ hql HAL.out e)
            have HNN : Hid (O funs[q] = false → R = false) := hid (fun e => by rw [HR.out, ← HBA.out]; exact all_false hql e)
            rw [HON.out funs[q]] at HY HNN
            obtain ⟨x, hx⟩ : ∃ x, funs[q] = x := ⟨_, rfl⟩
            rw [hx] at q0 q1 q2 q3 q4 hxv hhd hcd HY HNN
            obtain ⟨b1, hb1⟩ : ∃ b, headF x = b := ⟨_, rfl⟩
            obtain ⟨b2, hb2⟩ : ∃ b, codeF funs most x = b := ⟨_, rfl⟩
            rw [hb1] at hhd hcd HY HNN
            rw [hb2] at hcd HY HNN
            clear hb1 hb2 hx hmem hcr
            obtain ⟨nm, pa, re, sl, cv, code⟩ := x
            simp only [Wf.val] at q0 q1 q2 q3 q4 hxv hhd hcd
            subst hxv
            generalize code.length = vn at *
            have HHD := hid hhd
            have HCD := hid hcd
            have hqi : (q : Int) < (fn : Int) := by omega
            have HBF : Hid (∀ u, Tn No (wr.alloc (.cells #[.string nm, .int .i64 pa, .int .i64 re, .int .i64 sl, .slice va vn vc'] 76)) u → (u.cell? ⟨w.heap.size, 0, none⟩ = some (.slice (some ⟨g, o, none⟩) fn fc) ∧ u.cell? ⟨w.heap.size, 1, none⟩ = some (.slice da dn dc) ∧ u.cell? ⟨w.heap.size, 2, none⟩ = some (.int .i64 zero)) ∧
                (u.cell? ⟨wr.heap.size, 0, none⟩ = some (.string nm) ∧ u.cell? ⟨wr.heap.size, 1, none⟩ = some (.int .i64 pa) ∧ u.cell? ⟨wr.heap.size, 2, none⟩ = some (.int .i64 re) ∧ u.cell? ⟨wr.heap.size, 3, none⟩ = some (.int .i64 sl) ∧ u.cell? ⟨wr.heap.size, 4, none⟩ = some (.slice va vn vc')) ∧ wr.heap.size < u.heap.size ∧ Tn No w u ∧ Tn No w3 u) := hid (fun u t => by
              have tu := ((Tn.refl No wr).alloc _).then t
              obtain ⟨p0, p1, p2, _, twu⟩ := HBX.out u ((HT3.out.then HTR.out).then tu)
              have ex : ∀ i, u.cell? ⟨wr.heap.size, i, none⟩ = #[.string nm, .int .i64 pa, .int .i64 re, .int .i64 sl, .slice va vn vc'][i]? := fun i => by
                rw [t.cell (by simp) (fun e => e)]
                exact World.cell?_alloc_mark _ _ _ _ i
              exact ⟨⟨p0, p1, p2⟩, ⟨ex 0, ex 1, ex 2, ex 3, ex 4⟩, by have := t.size; simp at this; omega, twu, HTR.out.then tu⟩)
            clear hhd hcd HH HC2 HAT HFO HBA HON HBX HTR HAL hg twr hcell
            cases b1 with
            | false =>
              go_wp2_with (first
                | (go_at_call 61; refine (HHD.out _).mono ?_; rintro e w5 ⟨rfl, t5⟩; obtain ⟨⟨p0, p1, p2⟩, ⟨x0, x1, x2, x3, x4⟩, xz, tw5, tr5⟩ := HBF.out w5 t5))
              go_ret
              exact ⟨ret_bool (HNN.out rfl).symm, tw5⟩
            | true =>
            have HCE := hid (HCD.out rfl)
            clear HCD
            cases b2 with
            | false =>
              go_wp2_with (first
                | (go_at_call 61; refine (HHD.out _).mono ?_; rintro e w5 ⟨rfl, t5⟩; obtain ⟨⟨p0, p1, p2⟩, ⟨x0, x1, x2, x3, x4⟩, xz, tw5, tr5⟩ := HBF.out w5 t5)
                | (go_at_call 62; refine (HCE.out w5 tw5).mono ?_; rintro e w6 ⟨rfl, t6⟩; have tw6 := tw5.then t6))
              go_ret
              exact ⟨ret_bool (HNN.out rfl).symm, tw6⟩
            | true =>
              go_wp2_with (first
                | (go_at_call 61; refine (HHD.out _).mono ?_; rintro e w5 ⟨rfl, t5⟩; obtain ⟨⟨p0, p1, p2⟩, ⟨x0, x1, x2, x3, x4⟩, xz, tw5, tr5⟩ := HBF.out w5 t5)
                | (go_at_call 62; refine (HCE.out w5 tw5).mono ?_; rintro e w6 ⟨rfl, t6⟩; have tr6 := tr5.then t6; obtain ⟨⟨p0, p1, p2⟩, ⟨x0, x1, x2, x3, x4⟩, xz, _, _⟩ := HBF.out w6 (t5.then t6)))
              go_roundw
              case rel => exact ⟨q + 1, by omega, by go_num, hid (HY.out rfl), hid tr6⟩
              case measure => simp [intOf]; omega
          · obtain rfl : q = fn := by omega
            have HE : Hid (R = true) := hid (by rw [HR.out, ← HBA.out]; have := HAL.out; rw [List.take_of_length_le (by have := HN.out; omega)] at this; exact this)
            clear HAT HFO HBA HON HAL HH HC2
            go_wp2_with fail
            go_ret
            exact ⟨ret_bool HE.out.symm, HTWR.out⟩
    · have hp0' : (pr != 0) = true := by simpa using hp0
      have HF : Hid (R = false) := hid (by rw [HMP.out, HFR.out]; simp [hp0])
      clear HD HL HH HC HFO HMP HBA HON HAT HN HBX T0 HFR hp0
      go_enter Tryz.func32, Tryz.ntmps32
      go_wp2_with fail
      go_ret
      exact ⟨ret_bool HF.out.symm, HTW.out⟩

set_option maxRecDepth 100000 in
theorem check_raw (p : Wp) (w : World) (hp : PgA w p) : Calls Tryz.prog 8 #[p.val] w fun e w' => e = .returned (.int .i64 (if mayP p then 0 else 130)) ∧ Tn No w w' := by
  have HM : Hid (∀ u, Tn No w u → Calls Tryz.prog 32 #[p.val] u fun e w' => e = .returned (.bool (mayP p)) ∧ Tn No u w') := hid (fun u t => mayBe_raw p u (hp.no t))
  obtain ⟨b, hb⟩ : ∃ b, mayP p = b := ⟨_, rfl⟩
  rw [hb] at HM ⊢
  have hfu := hp.funs.form
  have hda := hp.data.form
  obtain ⟨fv, funs, dv, data, zero⟩ := p
  simp only [Wp.val] at *
  obtain ⟨fd, fc, rfl⟩ := hfu
  obtain ⟨da, dc, rfl⟩ := hda
  have HT : Hid (∀ o, Tn No w (w.alloc o)) := hid (fun o => (Tn.refl No w).alloc o)
  clear hp hb
  cases b
  all_goals
    go_enter Tryz.func8, Tryz.ntmps8
    go_wp2_with (go_at_call 32; refine (HM.out _ (HT.out _)).mono ?_; rintro e w2 ⟨rfl, t2⟩)
    go_ret
    exact ⟨rfl, (HT.out _).then t2⟩
end Go.Proofs.YtoidddfpekbliaaGreat
namespace Go.Proofs.YtoidddfpekbliaaGreat
set_option linter.unusedSimpArgs false
set_option linter.unusedVariables false
open Go.RowKit
attribute [local go_sem ↓] Go.wp_at_zero Go.wp_at_succ

/-- what was gathered: how many registers are read, the one that is set, those that are read -/
structure Gth where
  c : Nat
  d : Int
  f : Nat → Int
def step1 (s : Gth) (u : Int × Int) : Gth := if u.1 = 0 then ⟨s.c + 1, s.d, upd s.f s.c u.2⟩ else if u.1 = 1 then ⟨s.c, u.2, s.f⟩ else s
def wcell (kind imm : Int) (s : Gth) (i : Nat) : Value :=
  if i = 0 then .int .u8 kind else if i = 1 then .int .u8 0 else if i = 2 then .int .u8 (s.c : Int) else if i = 3 then .int .u32 s.d else if i = 4 then .int .i32 0 else if i = 5 then .int .u64 imm else .int .u32 (s.f (i - 6))

theorem wcell_read (kind imm : Int) (s : Gth) (num : Int) (i : Nat) (h : i < 11) (hc : s.c < 5) : upd (upd (wcell kind imm s) (6 + s.c) (.int .u32 num)) 2 (.int .u8 ((s.c : Int) + 1)) i = wcell kind imm (step1 s (0, num)) i := by
  have hs : step1 s (0, num) = ⟨s.c + 1, s.d, upd s.f s.c num⟩ := rfl
  rw [hs]
  unfold upd wcell
  by_cases h2 : i = 2
  · subst h2; simp
  · by_cases h6 : i = 6 + s.c
    · subst h6
      simp [show ¬ (6 + s.c = 2) by omega, show ¬ (6 + s.c = 0) by omega, show ¬ (6 + s.c = 1) by omega, show ¬ (6 + s.c = 3) by omega, show ¬ (6 + s.c = 4) by omega, show ¬ (6 + s.c = 5) by omega]
    · by_cases h5 : i ≤ 5
      · simp [h2, h6, show i ≠ 6 + s.c by omega]
        have : i = 0 ∨ i = 1 ∨ i = 3 ∨ i = 4 ∨ i = 5 := by omega
        rcases this with rfl | rfl | rfl | rfl | rfl <;> simp
      · simp [h2, h6, show ¬ (i = 0) by omega, show ¬ (i = 1) by omega, show ¬ (i = 3) by omega, show ¬ (i = 4) by omega, show ¬ (i = 5) by omega]
        intro e; omega
theorem wcell_set (kind imm : Int) (s : Gth) (num : Int) (i : Nat) : upd (wcell kind imm s) 3 (.int .u32 num) i = wcell kind imm (step1 s (1, num)) i := by
  have hs : step1 s (1, num) = ⟨s.c, num, s.f⟩ := rfl
  rw [hs]
  unfold upd wcell
  by_cases h3 : i = 3
  · subst h3; simp
  · simp [h3]

section
variable (use num kind imm : Int) (s : Gth) (pb : Nat) (w : World)

set_option maxHeartbeats 1000000 in
set_option maxRecDepth 100000 in
theorem ready1_raw (h : CB w pb 11 (wcell kind imm s)) (hc : use = 0 → s.c < 5) (hn : use = 0 ∨ use = 1 → 0 ≤ num ∧ num ≤ 4294967295) :
    Calls Tryz.prog 144 #[.int .i64 use, .int .i64 num, .pointer (some ⟨pb, 0, none⟩)] w fun e w' => e = .returned (.tuple #[]) ∧ CB w' pb 11 (wcell kind imm (step1 s (use, num))) ∧ Tn (fun k => k = pb) w w' := by
  by_cases h0 : use = 0
  · subst h0
    have hc := hc rfl
    obtain ⟨n1, n2⟩ := hn (.inl rfl)
    have HF : Hid (CB ((w.setCell ⟨pb, 6 + s.c, none⟩ (.int .u32 num)).setCell ⟨pb, 2, none⟩ (.int .u8 ((s.c : Int) + 1))) pb 11 (wcell kind imm (step1 s (0, num))) ∧ Tn (fun k => k = pb) w ((w.setCell ⟨pb, 6 + s.c, none⟩ (.int .u32 num)).setCell ⟨pb, 2, none⟩ (.int .u8 ((s.c : Int) + 1)))) :=
      hid ⟨((h.set (6 + s.c) (by omega) _).set 2 (by omega) _).congr (fun i hi => wcell_read kind imm s num i hi hc), ((Tn.refl (fun k => k = pb) w).set _ _ (fun _ => rfl)).set _ _ (fun _ => rfl)⟩
    have c2 : w.cell? ⟨pb, 2, none⟩ = some (.int .u8 (s.c : Int)) := h.cell 2 (by omega)
    have ci : w.cell? ⟨pb, 6 + s.c, none⟩ = some (.int .u32 (s.f s.c)) := by
      rw [h.cell (6 + s.c) (by omega)]
      unfold wcell
      simp [show ¬ (6 + s.c = 2) by omega, show ¬ (6 + s.c = 0) by omega, show ¬ (6 + s.c = 1) by omega, show ¬ (6 + s.c = 3) by omega, show ¬ (6 + s.c = 4) by omega, show ¬ (6 + s.c = 5) by omega]
    have z2 := h.froz 2
    have hlt := h.lt
    obtain ⟨q, hq⟩ : ∃ q, s.c = q := ⟨_, rfl⟩
    rw [hq] at HF c2 ci hc
    have zi := h.froz (6 + q)
    obtain ⟨y, hy⟩ : ∃ y, s.f q = y := ⟨_, rfl⟩
    rw [hy] at ci
    have hw : IntKind.u32.wrap num = num := by simp [IntKind.wrap, IntKind.bits, IntKind.signed]; omega
    clear h hq hy hn
    have : q = 0 ∨ q = 1 ∨ q = 2 ∨ q = 3 ∨ q = 4 := by omega
    rcases this with rfl | rfl | rfl | rfl | rfl
    all_goals
      go_enter Tryz.func144, Tryz.ntmps144
      go_wp2
      go_end0
      exact ⟨rfl, HF.out.1, HF.out.2⟩
  · have n0 : (use == 0) = false := by simpa using h0
    by_cases h1 : use = 1
    · subst h1
      obtain ⟨n1, n2⟩ := hn (.inr rfl)
      have HF : Hid (CB (w.setCell ⟨pb, 3, none⟩ (.int .u32 num)) pb 11 (wcell kind imm (step1 s (1, num))) ∧ Tn (fun k => k = pb) w (w.setCell ⟨pb, 3, none⟩ (.int .u32 num))) :=
        hid ⟨(h.set 3 (by omega) _).congr (fun i hi => wcell_set kind imm s num i), (Tn.refl (fun k => k = pb) w).set _ _ (fun _ => rfl)⟩
      have c3 : w.cell? ⟨pb, 3, none⟩ = some (.int .u32 s.d) := h.cell 3 (by omega)
      have z3 := h.froz 3
      have hlt := h.lt
      have hw : IntKind.u32.wrap num = num := by simp [IntKind.wrap, IntKind.bits, IntKind.signed]; omega
      clear h hc hn
      go_enter Tryz.func144, Tryz.ntmps144
      go_wp2
      go_end0
      exact ⟨rfl, HF.out.1, HF.out.2⟩
    · have n1 : (use == 1) = false := by simpa using h1
      have HF : Hid (CB w pb 11 (wcell kind imm (step1 s (use, num))) ∧ Tn (fun k => k = pb) w w) := hid (by
        unfold step1
        rw [if_neg h0, if_neg h1]
        exact ⟨h, Tn.refl _ _⟩)
      clear h hc hn h0 h1
      go_enter Tryz.func144, Tryz.ntmps144
      go_wp2
      go_end0
      exact ⟨rfl, HF.out.1, HF.out.2⟩
end
end Go.Proofs.YtoidddfpekbliaaGreat
namespace Go.Proofs.YtoidddfpekbliaaGreat
set_option linter.unusedSimpArgs false
set_option linter.unusedVariables false
open Go.RowKit
attribute [local go_sem ↓] Go.wp_at_zero Go.wp_at_succ

/-- what a block of a process belongs to -/
inductive Lb where
  | own | prog | row | spr
  | near (a : Bool) | far (a : Bool) | pg (a : Bool) (n : Nat)
  | sp (i : Nat) | lf (j : Nat) (r : Bool) (n : Nat) | nr (j : Nat) (r : Bool) | fm (j : Nat) (r : Bool)

/-- how many pages stand in the list -/
def nears (size : Nat) : Nat := min ((size + 1023) / 1024) 65536

/-- An area of so many bytes: its words are m. -/
structure AR (w : World) (L : Nat → Option Lb) (a : Bool) (N size : Nat) (v2 : Value) (mo : Option Nat) (pgs : Nat → Option Nat) (m : Nat → Int) : Prop where
  near : RW w 1 v2 (nears size)
  labn : ∀ g, v2.ownBlock = some g → L g = some (.near a)
  at' : ∀ n, n < nears size → vc w v2 n = some (pv (pgs n))
  far : MP 34 w mo N (fun n => if n < nears size then none else pgs n)
  labf : ∀ b, mo = some b → L b = some (.far a)
  pg : ∀ n g, pgs n = some g → L g = some (.pg a n) ∧ CB w g 128 (fun i => .int .u64 (m (128 * n + i)))
  zero : ∀ n, pgs n = none → ∀ i, i < 128 → m (128 * n + i) = 0
  range : ∀ i, 0 ≤ m i ∧ m i ≤ 18446744073709551615

/-- the area's cells at an address -/
structure AC (w : World) (b o : Nat) (base size : Nat) (v2 : Value) (mo : Option Nat) : Prop where
  c0 : w.cell? ⟨b, o, none⟩ = some (.int .u64 (base : Int))
  c1 : w.cell? ⟨b, o + 1, none⟩ = some (.int .u64 (size : Int))
  c2 : w.cell? ⟨b, o + 2, none⟩ = some v2
  c3 : w.cell? ⟨b, o + 3, none⟩ = some (.map mo)

theorem zeroPage (w : World) : (zeroValue 228).run Tryz.prog w = .ok (.pointer none) w := by kernel_rfl

/-- are n bytes there? -/
def hasB (base size : Nat) (a n : Int) : Bool := decide (IntKind.u64.wrap (a - base) ≤ size) && decide (n ≤ IntKind.u64.wrap (size - IntKind.u64.wrap (a - base)))

set_option maxHeartbeats 1000000 in
theorem ahas_raw (b o base size : Nat) (a n : Int) (w : World) (c0 : w.cell? ⟨b, o, none⟩ = some (.int .u64 (base : Int))) (c1 : w.cell? ⟨b, o + 1, none⟩ = some (.int .u64 (size : Int))) :
    Calls Tryz.prog 137 #[.pointer (some ⟨b, o, none⟩), .int .u64 a, .int .u64 n] w fun e w' => e = .returned (.bool (hasB base size a n)) ∧ w' = w := by
  go_enter Tryz.func137, Tryz.ntmps137
  go_wp2
  · have h : IntKind.u64.wrap (a - base) ≤ size := by assumption
    go_ret
    exact ⟨ret_bool (by simp [hasB, h]), rfl⟩
  · have h : size < IntKind.u64.wrap (a - base) := by assumption
    go_ret
    exact ⟨ret_bool (by rw [hasB, decide_eq_false (by omega)]; rfl), rfl⟩

set_option maxHeartbeats 1000000 in
theorem apage_raw (b o : Nat) (L : Nat → Option Lb) (a : Bool) (N base size : Nat) (v2 : Value) (mo : Option Nat) (pgs : Nat → Option Nat) (m : Nat → Int) (n : Nat) (w : World) (hc : AC w b o base size v2 mo) (h : AR w L a N size v2 mo pgs m) (hn : n < 18446744073709551616) :
    Calls Tryz.prog 116 #[.pointer (some ⟨b, o, none⟩), .int .u64 (n : Int)] w fun e w' => e = .returned (pv (pgs n)) ∧ w' = w := by
  have k2 := hc.c2
  have k3 := hc.c3
  have h5 : nears size ≤ 65536 := Nat.min_le_right _ _
  by_cases hl : n < nears size
  · obtain ⟨g, cap, e, hg, h1, h2, h3⟩ := h.near.pos (by omega)
    have hat := h.at' n hl
    subst e
    simp only [vc] at hat
    have hl2 : (n : Int) < (nears size : Int) := by omega
    have hN : (nears size : Int) ≤ 65536 := by omega
    clear h hc hn
    generalize nears size = q at *
    go_enter Tryz.func116, Tryz.ntmps116
    go_wp2
    go_ret
    exact ⟨rfl, rfl⟩
  · obtain ⟨a2, cap, e, hlc, hcm, hnil, hsome⟩ := h.near.form
    have hlk := mp_look h.far Tryz.underlying34 Tryz.underlying104 (zeroPage w) n hn
    simp only [hl, if_false] at hlk
    subst e
    have hl2 : ¬ ((n : Int) < (nears size : Int)) := by omega
    have hl3 : (nears size : Int) ≤ (n : Int) := by omega
    have hN : (nears size : Int) ≤ 65536 := by omega
    clear h hc hn hnil hsome
    generalize nears size = q at *
    have HR := hid hlk
    clear hlk hl2
    go_enter Tryz.func116, Tryz.ntmps116
    go_wp2_with (at_lookup; refine wpList_lookw _ rfl _ _ false rfl mo rfl _ rfl _ HR.out ?_)
    go_ret
    exact ⟨rfl, rfl⟩

theorem pv_some (g : Nat) : pv (some g) = .pointer (some ⟨g, 0, none⟩) := rfl
theorem pv_none : pv none = .pointer none := rfl

set_option maxHeartbeats 1000000 in
theorem aword_raw (b o : Nat) (L : Nat → Option Lb) (a : Bool) (N base size : Nat) (v2 : Value) (mo : Option Nat) (pgs : Nat → Option Nat) (m : Nat → Int) (n : Nat) (w : World) (hc : AC w b o base size v2 mo) (h : AR w L a N size v2 mo pgs m) (hn : n < 18446744073709551616) :
    Calls Tryz.prog 139 #[.pointer (some ⟨b, o, none⟩), .int .u64 (n : Int)] w fun e w' => e = .returned (.int .u64 (m n)) ∧ w' = w := by
  have hp := apage_raw b o L a N base size v2 mo pgs m (n / 128) w hc h (by omega)
  have e1 : ((n / 128 : Nat) : Int) = (n : Int) / 128 := by omega
  rw [e1] at hp
  have en : 128 * (n / 128) + n % 128 = n := by omega
  have HP := hid hp
  cases e : pgs (n / 128) with
  | none =>
    have hz := h.zero _ e (n % 128) (by omega)
    rw [en] at hz
    rw [e, pv_none] at HP
    clear hp hc h
    go_enter Tryz.func139, Tryz.ntmps139
    go_wp2_with (go_at_call 116; refine HP.out.mono ?_; rintro e w' ⟨rfl, rfl⟩)
    go_ret
    exact ⟨by rw [hz]; rfl, rfl⟩
  | some g =>
    have hk := (h.pg _ _ e).2.cell (n % 128) (by omega)
    rw [en] at hk
    rw [e, pv_some] at HP
    clear hp hc h
    go_enter Tryz.func139, Tryz.ntmps139
    go_wp2_with (go_at_call 116; refine HP.out.mono ?_; rintro e w' ⟨rfl, rfl⟩)
    go_ret
    exact ⟨rfl, rfl⟩

/-- the lowest bytes' bits -/
def lw (s : Int) : Int := if s = 1 then 255 else if s = 4 then 4294967295 else 18446744073709551615
theorem lowest_raw (s : Int) (hs : s = 1 ∨ s = 4 ∨ s = 8) (w : World) : Calls Tryz.prog 138 #[.int .i64 s] w fun e w' => e = .returned (.int .u64 (lw s)) ∧ w' = w := by
  rcases hs with rfl | rfl | rfl
  all_goals
    go_enter Tryz.func138, Tryz.ntmps138
    go_wp2
    go_ret
    exact ⟨rfl, rfl⟩

/-- the bytes at a place, from the words -/
def ldv (m : Nat → Int) (f : Nat) (s : Int) : Int :=
  if (f : Int) % 8 * 8 + s * 8 ≤ 64 then bits .and .u64 (m (f / 8) / 2 ^ (f % 8 * 8)) (lw s)
  else bits .and .u64 (bits .or .u64 (m (f / 8) / 2 ^ (f % 8 * 8)) (IntKind.u64.wrap (m (f / 8 + 1) * 2 ^ (64 - f % 8 * 8)))) (lw s)

set_option maxHeartbeats 1000000 in
theorem aload_raw (m : Nat → Int) (base : Nat) (a s : Int) (f : Nat) (hf : IntKind.u64.wrap (a - base) = f) (hs : s = 1 ∨ s = 4 ∨ s = 8) (hl : f ≤ 1099511627776) (b o : Nat) (L : Nat → Option Lb) (c : Bool) (N size : Nat) (v2 : Value) (mo : Option Nat) (pgs : Nat → Option Nat) (w : World) (hc : AC w b o base size v2 mo) (h : AR w L c N size v2 mo pgs m) :
    Calls Tryz.prog 92 #[.pointer (some ⟨b, o, none⟩), .int .u64 a, .int .i64 s] w fun e w' => e = .returned (.int .u64 (ldv m f s)) ∧ w' = w := by
  have e1 : ((f / 8 : Nat) : Int) = (f : Int) / 8 := by omega
  have e2 : ((f / 8 + 1 : Nat) : Int) = (f : Int) / 8 + 1 := by omega
  have HP := hid (aword_raw b o L c N base size v2 mo pgs m (f / 8) w hc h (by omega))
  have HP2 := hid (aword_raw b o L c N base size v2 mo pgs m (f / 8 + 1) w hc h (by omega))
  have c0 := hc.c0
  have HL := hid (lowest_raw s hs)
  obtain ⟨q, hq⟩ : ∃ q, (f : Int) / 8 = q := ⟨_, rfl⟩
  have hq1 : 0 ≤ q := by omega
  have hq2 : q ≤ 1099511627776 := by omega
  rw [e1, hq] at HP
  rw [e2, hq] at HP2
  clear hc h
  by_cases hb : (f : Int) % 8 * 8 + s * 8 ≤ 64
  · have HV := hid (show ldv m f s = _ from if_pos hb)
    go_enter Tryz.func92, Tryz.ntmps92
    go_wp2_with (first | (go_at_call 139; refine HP.out.mono ?_; rintro e w' ⟨rfl, rfl⟩) | (go_at_call 138; refine (HL.out _).mono ?_; rintro e w' ⟨rfl, rfl⟩))
    go_ret
    exact ⟨by rw [HV.out]; rfl, rfl⟩
  · have HV := hid (show ldv m f s = _ from if_neg hb)
    rw [Int.not_le] at hb
    have h64 : (0:Int) ≤ 64 - (f : Int) % 8 * 8 := by omega
    have h65 : (64 - (f : Int) % 8 * 8) = ((64 - f % 8 * 8 : Nat) : Int) := by omega
    go_enter Tryz.func92, Tryz.ntmps92
    go_wp2_with (first | (go_at_call_of 139 (Value.int IntKind.u64 q); refine HP.out.mono ?_; rintro e w' ⟨rfl, rfl⟩) | (go_at_call 139; refine HP2.out.mono ?_; rintro e w' ⟨rfl, rfl⟩) | (go_at_call 138; refine (HL.out _).mono ?_; rintro e w' ⟨rfl, rfl⟩))
    go_ret
    exact ⟨by rw [HV.out]; rfl, rfl⟩
end Go.Proofs.YtoidddfpekbliaaGreat
namespace Go.Proofs.YtoidddfpekbliaaGreat
set_option linter.unusedSimpArgs false
set_option linter.unusedVariables false
open Go.RowKit
attribute [local go_sem ↓] Go.wp_at_zero Go.wp_at_succ

/-- 'map[..]..{k: v}' at the operation -/
theorem wpList_insw (w : World) {tm : TypeId} {ops : Array Oper} {rest : List Oper} {o : Oper} {a : Act} {Q : Exit → Act → World → Prop} (hg : o.guard = none) (m x y : Operand) (hop : o.op = Op.insert tm m x y)
    (mo : Option Nat) (hm : a.eval m = .map mo) (k : Value) (hx : a.eval x = k) (v : Value) (hy : a.eval y = v) (w' : World) (hrun : (Instr.mapUpdate tm (.map mo) k v).run Tryz.prog w = .ok () w')
    (hK : wpList Tryz.prog ops Q rest (a.put o.dst undef) w') : wpList Tryz.prog ops Q (o :: rest) a w := by
  refine wpList_plain hg fun K' hK' => ?_
  unfold Oper.wp
  simp [execOp, hop, hm, hx, hy, hrun, Result.andThen]
  exact hK' _ _ hK

def Lb.isArea (a : Bool) : Lb → Prop
  | .near b => b = a
  | .far b => b = a
  | .pg b _ => b = a
  | _ => False

/-- what happens to a process's blocks: those of P and the process's own may turn; new ones are of P -/
structure Ls (p : Nat) (P : Lb → Prop) (w : World) (L : Nat → Option Lb) (w' : World) (L' : Nat → Option Lb) : Prop where
  tn : Tn (fun k => k = p ∨ ∃ l, L k = some l ∧ P l) w w'
  old : ∀ k, k < w.heap.size → L' k = L k
  new : ∀ k l, w.heap.size ≤ k → L' k = some l → P l ∧ k < w'.heap.size

theorem Ls.refl (p : Nat) (P : Lb → Prop) (w : World) (L : Nat → Option Lb) (hl : ∀ k, L k ≠ none → k < w.heap.size) : Ls p P w L w L :=
  ⟨Tn.refl _ _, fun _ _ => rfl, fun k l h e => by have := hl k (by rw [e]; simp); omega⟩
theorem Ls.trans {p : Nat} {P : Lb → Prop} {w w1 w2 : World} {L L1 L2 : Nat → Option Lb} (h : Ls p P w L w1 L1) (k : Ls p P w1 L1 w2 L2) : Ls p P w L w2 L2 := by
  refine ⟨h.tn.trans k.tn (fun _ _ e => e) (fun i hi e => ?_), fun i hi => (k.old i (Nat.lt_of_lt_of_le hi h.tn.size)).trans (h.old i hi), fun i l hi e => ?_⟩
  · rw [← h.old i hi]; exact e
  · by_cases hc : i < w1.heap.size
    · rw [k.old i hc] at e
      exact ⟨(h.new i l hi e).1, Nat.lt_of_lt_of_le hc k.tn.size⟩
    · exact k.new i l (by omega) e
theorem Ls.lt {p : Nat} {P : Lb → Prop} {w w' : World} {L L' : Nat → Option Lb} (h : Ls p P w L w' L') (hl : ∀ k, L k ≠ none → k < w.heap.size) : ∀ k, L' k ≠ none → k < w'.heap.size := by
  intro k hk
  by_cases hc : k < w.heap.size
  · exact Nat.lt_of_lt_of_le hc h.tn.size
  · cases e : L' k with
    | none => exact absurd e hk
    | some l => exact (h.new k l (by omega) e).2
theorem Ls.keep {p : Nat} {P : Lb → Prop} {w w' : World} {L L' : Nat → Option Lb} (h : Ls p P w L w' L') (hl : ∀ k, L k ≠ none → k < w.heap.size) {k : Nat} {l : Lb} (e : L k = some l) : L' k = some l :=
  (h.old k (hl k (by rw [e]; simp))).trans e

theorem MP.congr {tk : TypeId} {w : World} {mo : Option Nat} {N : Nat} {f g : Nat → Option Nat} (h : MP tk w mo N f) (e : ∀ k, f k = g k) : MP tk w mo N g := by
  have : f = g := funext e
  subst this; exact h

theorem AR.kept {w w' : World} {L L' : Nat → Option Lb} {a : Bool} {N size : Nat} {v2 : Value} {mo : Option Nat} {pgs : Nat → Option Nat} {m : Nat → Int} (h : AR w L a N size v2 mo pgs m)
    (hk : ∀ k l, L k = some l → l.isArea a → w'.heap[k]? = w.heap[k]?) (hl : ∀ k l, L k = some l → L' k = some l) : AR w' L' a N size v2 mo pgs m := by
  have hn : ∀ g, v2.ownBlock = some g → w'.heap[g]? = w.heap[g]? := fun g hg => hk g _ (h.labn g hg) rfl
  exact {
    near := h.near.kept hn
    labn := fun g hg => hl _ _ (h.labn g hg)
    at' := fun n hn' => (vc_kept hn n).trans (h.at' n hn')
    far := h.far.kept (fun b hb => hk b _ (h.labf b hb) rfl)
    labf := fun b hb => hl _ _ (h.labf b hb)
    pg := fun n g e => ⟨hl _ _ (h.pg n g e).1, (h.pg n g e).2.kept (hk g _ (h.pg n g e).1 rfl)⟩
    zero := h.zero
    range := h.range }

theorem zero258 : Tryz.zeroCells258 = Array.replicate 128 (.int .u64 0) := by kernel_rfl

theorem RW.setc {w : World} {v : Value} {n : Nat} (h : RW w 1 v n) (g j : Nat) (x : Value) : RW (w.setCell ⟨g, j, none⟩ x) 1 v n := by
  rcases h with h | ⟨g', cap, e, hg, h1, h2, h3⟩
  · exact .inl h
  · refine .inr ⟨g', cap, e, by simpa using hg, h1, h2, fun i hi => ?_⟩
    rw [World.frozen?_setCell]
    refine ⟨?_, (h3 i hi).2⟩
    by_cases e : (⟨g', i, none⟩ : Addr) = ⟨g, j, none⟩
    · obtain ⟨u, hu⟩ := Option.isSome_iff_exists.1 (h3 i hi).1
      rw [e] at hu ⊢
      rw [World.cell?_setCell_same w _ _ hu]; rfl
    · rw [World.cell?_setCell_other w _ _ _ (fun h => e h.symm)]; exact (h3 i hi).1

/-- the new page's cells -/
theorem page_new (w : World) (t : TypeId) (m : Nat → Int) (n : Nat) (hz : ∀ i, i < 128 → m (128 * n + i) = 0) : CB (w.alloc (.cells Tryz.zeroCells258 t)) w.heap.size 128 (fun i => .int .u64 (m (128 * n + i))) := by
  have h := CB.new w Tryz.zeroCells258 t
  rw [zero258] at h ⊢
  rw [Array.size_replicate] at h
  refine h.congr (fun i hi => ?_)
  rw [hz i hi, Array.getElem?_replicate, if_pos hi]; rfl

/-- a new page is noted -/
def NP (p o : Nat) (L : Nat → Option Lb) (a : Bool) (N size : Nat) (v2 : Value) (pgs : Nat → Option Nat) (m : Nat → Int) (c : Nat → Value) (w w' : World) : Prop :=
  ∃ L' mo', CB w' p 18 (upd c (o + 3) (.map mo')) ∧ AR w' L' a N size v2 mo' pgs m ∧ Ls p (Lb.isArea a) w L w' L'

theorem upd_self {α : Type} (c : Nat → α) (j : Nat) : upd c j (c j) = c := by
  funext i; unfold upd; split <;> simp_all

theorem labNone {w : World} {L : Nat → Option Lb} (hlt : ∀ k, L k ≠ none → k < w.heap.size) {k : Nat} (hk : w.heap.size ≤ k) : L k = none := by
  cases e : L k with
  | none => rfl
  | some x => have := hlt k (by rw [e]; simp); omega

section
variable {p o : Nat} {L : Nat → Option Lb} {a : Bool} {N size : Nat} {v2 : Value} {mo : Option Nat} {pgs : Nat → Option Nat} {m : Nat → Int} {c : Nat → Value} {n : Nat} {w : World}

theorem np_near (hp : CB w p 18 c) (e3 : c (o + 3) = .map mo) (h : AR w L a N size v2 mo pgs m) (hL : L p = some .own) (hlt : ∀ k, L k ≠ none → k < w.heap.size) (hno : pgs n = none) (hn : n < nears size)
    (g cap : Nat) (hv : v2 = .slice (some ⟨g, 0, none⟩) (nears size) cap) (t : TypeId) :
    NP p o L a (N + 1) size v2 (upd pgs n (some w.heap.size)) m c w ((w.setCell ⟨g, n, none⟩ (pv (some w.heap.size))).alloc (.cells Tryz.zeroCells258 t)) := by
  have hgl := h.labn g (by rw [hv]; rfl)
  have hgs : g < w.heap.size := hlt g (by rw [hgl]; simp)
  have hold : ∀ k, k < w.heap.size → k ≠ g → ((w.setCell ⟨g, n, none⟩ (pv (some w.heap.size))).alloc (.cells Tryz.zeroCells258 t)).heap[k]? = w.heap[k]? := fun k hk hne => by
    rw [Below.heap_alloc _ _ _ (by simpa using hk), Below.heap_setCell _ _ _ _ hne]
  have hLn : L w.heap.size = none := labNone hlt (Nat.le_refl _)
  have up : ∀ k l, L k = some l → upd L w.heap.size (some (.pg a n)) k = some l := fun k l e => by
    rw [upd_other _ _ (by rintro rfl; rw [hLn] at e; cases e)]; exact e
  have hsz : (w.setCell ⟨g, n, none⟩ (pv (some w.heap.size))).heap.size = w.heap.size := by simp
  have kg : ∀ k o', k < w.heap.size → ((w.setCell ⟨g, n, none⟩ (pv (some w.heap.size))).alloc (.cells Tryz.zeroCells258 t)).cell? ⟨k, o', none⟩ = (w.setCell ⟨g, n, none⟩ (pv (some w.heap.size))).cell? ⟨k, o', none⟩ := fun k o' hk =>
    World.cell?_of_block (w := w.setCell ⟨g, n, none⟩ (pv (some w.heap.size))) (Below.heap_alloc _ _ _ (by simpa using hk))
  refine ⟨upd L w.heap.size (some (.pg a n)), mo, ?_, ?_, ?_⟩
  · rw [← e3, upd_self]
    exact hp.kept (hold p hp.lt (by rintro rfl; rw [hL] at hgl; cases hgl))
  · refine { near := ?_, labn := fun k hk => up _ _ (h.labn k hk), at' := fun i hi => ?_, far := ?_, labf := fun b hb => up _ _ (h.labf b hb), pg := fun i k e => ?_, zero := fun i e => ?_, range := h.range }
    · refine (h.near.setc g n (pv (some w.heap.size))).kept (fun k hk => ?_)
      rw [hv] at hk; cases hk
      exact Below.heap_alloc _ _ _ (by simpa using hgs)
    · have h1 := h.at' i hi
      rw [hv] at h1 ⊢
      simp only [vc] at h1 ⊢
      rw [kg g i hgs]
      by_cases e : i = n
      · subst e
        rw [World.cell?_setCell_same w _ _ h1, upd_same]
      · rw [World.cell?_setCell_other w _ _ _ (by intro h; cases h; exact e rfl), upd_other _ _ e]; exact h1
    · refine mp_mono ((h.far.kept (fun b hb => hold b (hlt b (by rw [h.labf b hb]; simp)) (by rintro rfl; rw [h.labf _ hb] at hgl; cases hgl))).congr (fun k => ?_)) (Nat.le_succ N)
      by_cases e : k = n
      · subst e; simp [hn]
      · rw [upd_other _ _ e]
    · by_cases e' : i = n
      · subst e'
        rw [upd_same] at e
        cases e
        refine ⟨upd_same _ _ _, ?_⟩
        have := page_new (w.setCell ⟨g, i, none⟩ (pv (some w.heap.size))) t m i (h.zero i hno)
        rw [hsz] at this
        exact this
      · rw [upd_other _ _ e'] at e
        obtain ⟨h1, h2⟩ := h.pg i k e
        exact ⟨up _ _ h1, h2.kept (hold k h2.lt (by rintro rfl; rw [h1] at hgl; cases hgl))⟩
    · by_cases e' : i = n
      · subst e'
        rw [upd_same] at e
        cases e
      · rw [upd_other _ _ e'] at e
        exact h.zero i e
  · refine ⟨⟨rfl, rfl, rfl, by simp, fun k hk hne => hold k hk (by rintro rfl; exact hne (.inr ⟨_, hgl, rfl⟩))⟩, fun k hk => upd_other _ _ (by omega), fun k l hk e => ?_⟩
    by_cases e' : k = w.heap.size
    · subst e'
      rw [upd_same] at e
      cases e
      exact ⟨rfl, by simp⟩
    · rw [upd_other _ _ e', labNone hlt hk] at e
      cases e

theorem np_far {mo' : Option Nat} {w' : World} (h : AR w L a N size v2 mo pgs m) (hlt : ∀ k, L k ≠ none → k < w.heap.size) (hL : L p = some .own) (hno : pgs n = none) (hn : ¬ n < nears size)
    (hs : w.heap.size < w'.heap.size) (h1 : w'.os = w.os) (h2 : w'.tape = w.tape) (h3 : w'.output = w.output) (hk : ∀ k, k < w.heap.size → k ≠ p → mo ≠ some k → w'.heap[k]? = w.heap[k]?)
    (hpg : CB w' w.heap.size 128 (fun i => .int .u64 (m (128 * n + i)))) (hmp : MP 34 w' mo' (N + 1) (fun k => if k < nears size then none else upd pgs n (some w.heap.size) k))
    (hmo : mo' = mo ∨ mo' = some (w.heap.size + 1) ∧ w.heap.size + 1 < w'.heap.size) (hpc : CB w' p 18 (upd c (o + 3) (.map mo'))) :
    NP p o L a (N + 1) size v2 (upd pgs n (some w.heap.size)) m c w w' := by
  obtain ⟨L1, hL1⟩ : ∃ L1 : Nat → Option Lb, L1 = upd (fun k => if mo' = some (w.heap.size + 1) ∧ k = w.heap.size + 1 then some (.far a) else L k) w.heap.size (some (.pg a n)) := ⟨_, rfl⟩
  have up : ∀ k, k < w.heap.size → L1 k = L k := fun k hk => by
    rw [hL1, upd_other _ _ (by omega), if_neg (by omega)]
  have up2 : ∀ k l, L k = some l → L1 k = some l := fun k l e => by
    rw [up k (hlt k (by rw [e]; simp))]; exact e
  have hkl : ∀ k l, L k = some l → l ≠ .own → mo ≠ some k → w'.heap[k]? = w.heap[k]? := fun k l e hne hm => hk k (hlt k (by rw [e]; simp)) (by rintro rfl; rw [hL] at e; cases e; exact hne rfl) hm
  have hmf : ∀ k l, L k = some l → (∀ b, l ≠ .far b) → mo ≠ some k := fun k l e hne hm => by
    rw [h.labf k hm] at e; cases e; exact hne a rfl
  refine ⟨L1, mo', hpc, ?_, ?_⟩
  · have hnr : ∀ g, v2.ownBlock = some g → w'.heap[g]? = w.heap[g]? := fun g hg => hkl g _ (h.labn g hg) (by simp) (hmf g _ (h.labn g hg) (by simp))
    refine { near := h.near.kept hnr, labn := fun k hk => up2 _ _ (h.labn k hk), at' := fun i hi => ?_, far := hmp, labf := fun b hb => ?_, pg := fun i k e => ?_, zero := fun i e => ?_, range := h.range }
    · rw [vc_kept hnr, h.at' i hi, upd_other _ _ (by omega)]
    · rcases hmo with e | ⟨e, _⟩
      · rw [e] at hb; exact up2 _ _ (h.labf b hb)
      · rw [e] at hb; cases hb
        rw [hL1, upd_other _ _ (by omega), if_pos ⟨e, rfl⟩]
    · by_cases e' : i = n
      · subst e'
        rw [upd_same] at e; cases e
        exact ⟨by rw [hL1]; exact upd_same _ _ _, hpg⟩
      · rw [upd_other _ _ e'] at e
        obtain ⟨q1, q2⟩ := h.pg i k e
        exact ⟨up2 _ _ q1, q2.kept (hkl k _ q1 (by simp) (hmf k _ q1 (by simp)))⟩
    · by_cases e' : i = n
      · subst e'; rw [upd_same] at e; cases e
      · rw [upd_other _ _ e'] at e; exact h.zero i e
  · refine ⟨⟨h1, h2, h3, by omega, fun k hk' hne => hk k hk' (fun e => hne (.inl e)) (fun e => hne (.inr ⟨_, h.labf k e, rfl⟩))⟩, up, fun k l hk' e => ?_⟩
    rw [hL1] at e
    by_cases e' : k = w.heap.size
    · subst e'; rw [upd_same] at e; cases e; exact ⟨rfl, hs⟩
    · rw [upd_other _ _ e'] at e
      split at e
      · rename_i hc
        cases e
        refine ⟨rfl, ?_⟩
        rcases hmo with q | ⟨_, q⟩
        · have := hlt k (by rw [h.labf k (by rw [← q, hc.1, hc.2])]; simp); omega
        · omega
      · rw [labNone hlt hk'] at e; cases e
end

theorem peql (b : Nat) (w : World) : (binOp .eql 104 (.map (some b)) (.map none)).run Tryz.prog w = .ok (.bool false) w := by kernel_rfl
theorem peqlNil (w : World) : (binOp .eql 104 (.map none) (.map none)).run Tryz.prog w = .ok (.bool true) w := by kernel_rfl

set_option maxHeartbeats 2000000 in
set_option maxRecDepth 100000 in
theorem newPage_raw (p o : Nat) (L : Nat → Option Lb) (a : Bool) (N size : Nat) (v2 : Value) (mo : Option Nat) (pgs : Nat → Option Nat) (m : Nat → Int) (c : Nat → Value) (n : Nat) (w : World)
    (hp : CB w p 18 c) (ho : o + 3 < 18) (e2 : c (o + 2) = v2) (e3 : c (o + 3) = .map mo) (h : AR w L a N size v2 mo pgs m) (hL : L p = some .own) (hlt : ∀ k, L k ≠ none → k < w.heap.size) (hn : n < 18446744073709551616) (hno : pgs n = none) (hN : N < 4611686018427387904) :
    Calls Tryz.prog 117 #[.pointer (some ⟨p, o, none⟩), .int .u64 (n : Int)] w fun e w' => e = .returned (pv (some w.heap.size)) ∧ NP p o L a (N + 1) size v2 (upd pgs n (some w.heap.size)) m c w w' := by
  have k2 := hp.cell (o + 2) (by omega)
  have k3 := hp.cell (o + 3) ho
  rw [e2] at k2
  rw [e3] at k3
  have f3 := hp.froz (o + 3)
  have plt := hp.lt
  have h5 : nears size ≤ 65536 := Nat.min_le_right _ _
  by_cases hl : n < nears size
  · obtain ⟨g, cap, e, hg, h1, h2, h3⟩ := h.near.pos (by omega)
    have HE := hid (np_near hp e3 h hL hlt hno hl g cap e 258)
    have hat := h.at' n hl
    rw [e] at k2 hat
    simp only [vc] at hat
    have hz := h3 n (by omega)
    have hl2 : (n : Int) < (nears size : Int) := by omega
    have hN2 : (nears size : Int) ≤ 65536 := by omega
    clear h hp hn hlt hL h3 e2 e3
    generalize hq : nears size = q at *
    clear hq
    go_enter Tryz.func117, Tryz.ntmps117
    go_wp2
    go_ret
    exact ⟨rfl, HE.out⟩
  · obtain ⟨a2, cap, e, hlc, hcm, hnil, hsome⟩ := h.near.form
    have ef : ∀ k, upd (fun n => if n < nears size then none else pgs n) n (some w.heap.size) k = if k < nears size then none else upd pgs n (some w.heap.size) k := fun k => by
      by_cases e : k = n
      · subst e; rw [upd_same, upd_same, if_neg hl]
      · rw [upd_other _ _ e, upd_other _ _ e]
    have hG : (w.alloc (.cells Tryz.zeroCells258 258)).heap.size = w.heap.size + 1 := by simp
    have hpg := page_new w 258 m n (h.zero n hno)
    have hl3 : (nears size : Int) ≤ (n : Int) := by omega
    have hN2 : (nears size : Int) ≤ 65536 := by omega
    have q1 := peql
    have q2 := peqlNil
    cases mo with
    | some b =>
      have hbs : b < w.heap.size := hlt b (by rw [h.labf b rfl]; simp)
      obtain ⟨w', hr, hmp, hg⟩ := mp_store (h.far.kept (w' := w.alloc (.cells Tryz.zeroCells258 258)) (fun b' hb' => by cases hb'; exact Below.heap_alloc _ _ _ hbs)) (by unfold maxLen; omega) Tryz.underlying34 Tryz.underlying104 n hn w.heap.size
      have hk : ∀ k, k < w.heap.size → b ≠ k → w'.heap[k]? = w.heap[k]? := fun k hk hne => by
        rw [hg.block k (by rw [hG]; omega) (by rintro ⟨⟩; exact hne rfl)]
        exact Below.heap_alloc _ _ _ hk
      have HE : Hid (NP p o L a (N + 1) size v2 (upd pgs n (some w.heap.size)) m c w w') := by
        refine np_far h hlt hL hno hl (by have := hg.size; omega) hg.os hg.tape hg.output (fun k hk' _ hm => hk k hk' (fun e => hm (by rw [e]))) (hpg.kept (hg.block _ (by rw [hG]; omega) (by rintro ⟨⟩; omega))) (hmp.congr ef) (.inl rfl) ?_
        rw [← e3, upd_self]
        exact hp.kept (hk p plt (by rintro rfl; rw [h.labf _ rfl] at hL; cases hL))
      rw [pv_some] at hr
      have HR := hid hr
      subst e
      clear h hp hn hlt hL e2 e3 hnil hsome hr hmp hg hk ef hpg hG hl
      generalize hq : nears size = q at *
      clear hq
      go_enter Tryz.func117, Tryz.ntmps117
      go_wp2_with (at_mapUpdate; refine wpList_putw _ rfl _ _ _ rfl _ rfl _ rfl _ rfl w' HR.out ?_)
      go_ret
      exact ⟨rfl, HE.out⟩
    | none =>
      have hm1 := mp_made 34 (w.alloc (.cells Tryz.zeroCells258 258)) N
      rw [hG] at hm1
      obtain ⟨w', hr, hmp, hg⟩ := mp_store hm1 (by unfold maxLen; omega) Tryz.underlying34 Tryz.underlying104 n hn w.heap.size
      have hG2 : ((w.alloc (.cells Tryz.zeroCells258 258)).alloc (.map #[] 0)).heap.size = w.heap.size + 2 := by simp
      have hk : ∀ k, k < w.heap.size → w'.heap[k]? = w.heap[k]? := fun k hk => by
        rw [hg.block k (by rw [hG2]; omega) (by rintro ⟨⟩; omega), Below.heap_alloc _ _ _ (by rw [hG]; omega)]
        exact Below.heap_alloc _ _ _ hk
      have hs := hg.size
      rw [hG2] at hs
      have hgp : w'.heap[w.heap.size]? = (w.alloc (.cells Tryz.zeroCells258 258)).heap[w.heap.size]? := by
        rw [hg.block _ (by rw [hG2]; omega) (by intro h; injection h; omega), Below.heap_alloc _ _ _ (by rw [hG]; omega)]
      have hpc := hp.kept (hk p plt)
      have hfn : ∀ k, (fun n => if n < nears size then none else pgs n) k = none := by
        rcases h.far with ⟨_, q⟩ | ⟨b, _, _, q, _⟩
        · exact q
        · cases q
      have HE : Hid (NP p o L a (N + 1) size v2 (upd pgs n (some w.heap.size)) m c w (w'.setCell ⟨p, o + 3, none⟩ (.map (some (w.heap.size + 1))))) := by
        have hb : ∀ k, k ≠ p → (w'.setCell ⟨p, o + 3, none⟩ (.map (some (w.heap.size + 1)))).heap[k]? = w'.heap[k]? := fun k hk => Below.heap_setCell _ _ _ _ hk
        refine np_far (mo' := some (w.heap.size + 1)) h hlt hL hno hl (by simp; omega) hg.os hg.tape hg.output (fun k hk' hp' _ => (hb k hp').trans (hk k hk')) (hpg.kept ((hb _ (by omega)).trans hgp)) ?_ (.inr ⟨rfl, by simp; omega⟩) (hpc.set (o + 3) ho _)
        refine (hmp.kept (fun b hb' => by cases hb'; exact hb _ (by omega))).congr (fun k => ?_)
        rw [← ef k]
        by_cases e : k = n
        · subst e; rw [upd_same, upd_same]
        · rw [upd_other _ _ e, upd_other _ _ e]; exact (hfn k).symm
      have k3' := hpc.cell (o + 3) ho
      have f3' := hpc.froz (o + 3)
      have p3' := hpc.lt
      rw [pv_some] at hr
      have HR := hid hr
      have hmm := @run_makeMap Tryz.prog
      subst e
      clear h hp hn hlt hL e2 e3 hnil hsome hr hmp hg hk ef hpg hG hl hm1 hG2 hgp hpc hfn
      generalize hq : nears size = q at *
      clear hq
      go_enter Tryz.func117, Tryz.ntmps117
      go_wp2_with (refine wpList_insw (tm := 104) _ rfl (.tmp 37) (.tmp 38) (.tmp 39) rfl (some (w.heap.size + 1)) rfl (.int .u64 (n : Int)) rfl (.pointer (some ⟨w.heap.size, 0, none⟩)) rfl w' HR.out ?_)

      go_ret
      exact ⟨rfl, HE.out⟩
end Go.Proofs.YtoidddfpekbliaaGreat
namespace Go.Proofs.YtoidddfpekbliaaGreat
set_option linter.unusedSimpArgs false
set_option linter.unusedVariables false
open Go.RowKit
attribute [local go_sem ↓] Go.wp_at_zero Go.wp_at_succ

/-- the area's words are m now -/
def SW (p o : Nat) (L : Nat → Option Lb) (a : Bool) (N size : Nat) (v2 : Value) (m : Nat → Int) (c : Nat → Value) (w w' : World) : Prop :=
  ∃ L' mo' pgs', CB w' p 18 (upd c (o + 3) (.map mo')) ∧ AR w' L' a N size v2 mo' pgs' m ∧ Ls p (Lb.isArea a) w L w' L'

theorem ar_set {w : World} {L : Nat → Option Lb} {a : Bool} {N size : Nat} {v2 : Value} {mo : Option Nat} {pgs : Nat → Option Nat} {m : Nat → Int} (h : AR w L a N size v2 mo pgs m) (n g : Nat) (hg : pgs (n / 128) = some g) (x : Int) (hx : 0 ≤ x ∧ x ≤ 18446744073709551615) :
    AR (w.setCell ⟨g, n % 128, none⟩ (.int .u64 x)) L a N size v2 mo pgs (upd m n x) := by
  obtain ⟨hgl, hcb⟩ := h.pg _ _ hg
  have hk : ∀ k, k ≠ g → (w.setCell ⟨g, n % 128, none⟩ (.int .u64 x)).heap[k]? = w.heap[k]? := fun k hk => Below.heap_setCell _ _ _ _ hk
  have hn : ∀ k, v2.ownBlock = some k → (w.setCell ⟨g, n % 128, none⟩ (.int .u64 x)).heap[k]? = w.heap[k]? := fun k e => hk k (by rintro rfl; rw [h.labn _ e] at hgl; cases hgl)
  refine { near := h.near.kept hn, labn := h.labn, at' := fun i hi => (vc_kept hn i).trans (h.at' i hi), far := h.far.kept (fun b hb => hk b (by rintro rfl; rw [h.labf _ hb] at hgl; cases hgl)), labf := h.labf, pg := fun i k e => ?_, zero := fun i e j hj => ?_, range := fun i => ?_ }
  · by_cases e' : i = n / 128
    · subst e'
      rw [hg] at e; cases e
      refine ⟨hgl, (hcb.set (n % 128) (by omega) _).congr (fun j hj => ?_)⟩
      by_cases e : j = n % 128
      · subst e
        rw [upd_same, show 128 * (n / 128) + n % 128 = n by omega, upd_same]
      · rw [upd_other _ _ e, upd_other _ _ (by omega)]
    · obtain ⟨q1, q2⟩ := h.pg i k e
      refine ⟨q1, (q2.kept (hk k (by rintro rfl; rw [hgl] at q1; cases q1; exact e' rfl))).congr (fun j hj => ?_)⟩
      rw [upd_other _ _ (by omega)]
  · rw [upd_other _ _ (by rintro rfl; rw [show (128 * i + j) / 128 = i by omega, e] at hg; cases hg)]
    exact h.zero i e j hj
  · by_cases e : i = n
    · subst e; rw [upd_same]; exact hx
    · rw [upd_other _ _ e]; exact h.range i

theorem AC.of {w : World} {p o base size : Nat} {v2 : Value} {mo : Option Nat} {c : Nat → Value} (hp : CB w p 18 c) (ho : o + 3 < 18) (e0 : c o = .int .u64 (base : Int)) (e1 : c (o + 1) = .int .u64 (size : Int)) (e2 : c (o + 2) = v2) (e3 : c (o + 3) = .map mo) : AC w p o base size v2 mo :=
  ⟨by rw [hp.cell _ (by omega), e0], by rw [hp.cell _ (by omega), e1], by rw [hp.cell _ (by omega), e2], by rw [hp.cell _ (by omega), e3]⟩

set_option maxHeartbeats 2000000 in
set_option maxRecDepth 100000 in
theorem setWord_raw (p o : Nat) (L : Nat → Option Lb) (a : Bool) (N base size : Nat) (v2 : Value) (mo : Option Nat) (pgs : Nat → Option Nat) (m : Nat → Int) (c : Nat → Value) (n : Nat) (x : Int) (w : World)
    (hp : CB w p 18 c) (ho : o + 3 < 18) (e0 : c o = .int .u64 (base : Int)) (e1 : c (o + 1) = .int .u64 (size : Int)) (e2 : c (o + 2) = v2) (e3 : c (o + 3) = .map mo) (h : AR w L a N size v2 mo pgs m) (hL : L p = some .own) (hlt : ∀ k, L k ≠ none → k < w.heap.size) (hn : n < 18446744073709551616)
    (hN : N < 4611686018427387904) (hx : 0 ≤ x ∧ x ≤ 18446744073709551615) :
    Calls Tryz.prog 73 #[.pointer (some ⟨p, o, none⟩), .int .u64 (n : Int), .int .u64 x] w fun e w' => e = .returned (.tuple #[]) ∧ SW p o L a (N + 1) size v2 (upd m n x) c w w' := by
  have hpg := apage_raw p o L a N base size v2 mo pgs m (n / 128) w (AC.of hp ho e0 e1 e2 e3) h (by omega)
  have e4 : ((n / 128 : Nat) : Int) = (n : Int) / 128 := by omega
  rw [e4] at hpg
  have HP := hid hpg
  cases e : pgs (n / 128) with
  | some g =>
    obtain ⟨hgl, hcb⟩ := h.pg _ _ e
    have HE : Hid (SW p o L a (N + 1) size v2 (upd m n x) c w (w.setCell ⟨g, n % 128, none⟩ (.int .u64 x))) := by
      have h2 := ar_set h n g e x hx
      refine ⟨L, mo, pgs, ?_, { h2 with far := mp_mono h2.far (Nat.le_succ N) }, ⟨Tn.set (Tn.refl _ _) _ _ (fun _ => .inr ⟨_, hgl, rfl⟩), fun _ _ => rfl, fun k l hk e => ?_⟩⟩
      · rw [← e3, upd_self]
        exact hp.kept (Below.heap_setCell _ _ _ _ (by rintro rfl; rw [hL] at hgl; cases hgl))
      · rw [labNone hlt hk] at e; cases e
    have k1 := hcb.cell (n % 128) (by omega)
    have k2 := hcb.froz (n % 128)
    have k3 := hcb.lt
    rw [e, pv_some] at HP
    clear hpg h hp hlt hL e0 e1 e2 e3 hcb hgl
    go_enter Tryz.func73, Tryz.ntmps73
    go_wp2_with (go_at_call 116; refine HP.out.mono ?_; rintro e w' ⟨rfl, rfl⟩)
    go_end0
    exact ⟨rfl, HE.out⟩
  | none =>
    have hnp := newPage_raw p o L a N size v2 mo pgs m c (n / 128) w hp ho e2 e3 h hL hlt (by omega) e hN
    rw [e4] at hnp
    have HN := hid hnp
    rw [e, pv_none] at HP
    have HF : Hid (∀ w1, NP p o L a (N + 1) size v2 (upd pgs (n / 128) (some w.heap.size)) m c w w1 → (w1.cell? ⟨w.heap.size, n % 128, none⟩ = some (.int .u64 (m n)) ∧ w1.frozen? ⟨w.heap.size, n % 128, none⟩ = false ∧ w.heap.size < w1.heap.size) ∧
        SW p o L a (N + 1) size v2 (upd m n x) c w (w1.setCell ⟨w.heap.size, n % 128, none⟩ (.int .u64 x))) := by
      rintro w1 ⟨L', mo', g1, g2, g3⟩
      obtain ⟨q1, q2⟩ := g2.pg (n / 128) w.heap.size (upd_same _ _ _)
      have q3 := q2.cell (n % 128) (by omega)
      rw [show 128 * (n / 128) + n % 128 = n by omega] at q3
      refine ⟨⟨q3, q2.froz _, q2.lt⟩, L', mo', _, ?_, ar_set g2 n w.heap.size (upd_same _ _ _) x hx, g3.trans ⟨Tn.set (Tn.refl _ _) _ _ (fun _ => .inr ⟨_, q1, rfl⟩), fun _ _ => rfl, fun k l hk e => ?_⟩⟩
      · exact g1.kept (Below.heap_setCell _ _ _ _ (by intro e; have := hp.lt; simp only at e; omega))
      · rw [labNone (g3.lt hlt) hk] at e; cases e
    clear hpg h hp hlt hL e0 e1 e2 e3 hnp
    go_enter Tryz.func73, Tryz.ntmps73
    go_wp2_with (first
      | (go_at_call 116; refine HP.out.mono ?_; rintro e w' ⟨rfl, rfl⟩)
      | (go_at_call 117; refine HN.out.mono ?_; rintro e w1 ⟨rfl, hnp⟩; obtain ⟨⟨q1, q2, q3⟩, hend⟩ := HF.out w1 hnp; have HE := hid hend; clear hend hnp; rw [pv_some]))
    go_end0
    exact ⟨rfl, HE.out⟩
end Go.Proofs.YtoidddfpekbliaaGreat
