/-
  word: a function's instructions may be: the loop. Made by gen_wcode.py.
-/
import Derived.Test.YtoidddfpekbliaaGreatWCodeB
namespace Go.Proofs.YtoidddfpekbliaaGreat
set_option linter.unusedSimpArgs false
set_option linter.unusedVariables false
open Go.RowKit
attribute [local go_sem ↓] Go.wp_at_zero Go.wp_at_succ

section
variable (fd : Option Addr) (fn fc : Nat) (da : Option Addr) (dn dc : Nat) (zero : Int) (name : ByteArray) (params regs slots : Int) (ca : Option Addr) (n cc : Nat) (w : World)

/-- how the loop's round goes: the facts about one instruction -/
structure Rnd (fs : List Wf) (m : Int → Option Nat) (x : Wd) (w : World) : Prop where
  pl : ∀ u, Tn No w u → Calls Tryz.prog 97 #[.agg #[.string name, .int .i64 params, .int .i64 regs, .int .i64 slots, .slice ca n cc], x.val] u fun e w' => e = .returned (.bool (placesF regs x)) ∧ Tn No u w'
  im : ∀ u, Tn No w u → Calls Tryz.prog 98 #[.agg #[.slice fd fn fc, .slice da dn dc, .int .i64 zero], .agg #[.string name, .int .i64 params, .int .i64 regs, .int .i64 slots, .slice ca n cc], x.val] u fun e w' => e = .returned (.bool (immF ((dn : Int) + zero) slots x)) ∧ Tn No u w'
  cl : ∀ u, Tn No w u → Calls Tryz.prog 99 #[.agg #[.slice fd fn fc, .slice da dn dc, .int .i64 zero], x.val] u fun e w' => e = .returned (.bool (callF fs x)) ∧ Tn No u w'
  lok : i64ok x.l
  form : ∃ a c, x.av = .slice a x.args.length c

/-- may an instruction be? -/
def wdF (fs : List Wf) (most regs slots : Int) (m : Int → Option Nat) (x : Wd) : Bool :=
  decide (fieldsF x.k ≠ 0) && placesF regs x && immF most slots x && callF fs x && howF x.k x.cond x.real x.size && ((m x.l).isSome || !bit 8 x.k)

set_option maxHeartbeats 8000000 in
set_option maxRecDepth 100000 in
theorem code_main (fs : List Wf) (l : List Wd) (hln : l.length = n) (g o : Nat) (hca : ca = some ⟨g, o, none⟩) (hg : g < w.heap.size) (hcell : ∀ i (hi : i < l.length) j, j < 11 → w.cell? ⟨g, o + (i * 11 + j), none⟩ = (eW l[i])[j]?) (hn : 0 < n) (hnl : n ≤ 1073741824) (k : Int) (hk : w.cell? ⟨g, o + (n - 1) * 11, none⟩ = some (.int .i64 k)) (hlv : leavesF k = true) (m : Int → Option Nat)
    (hlab : ∀ u, Tn No w u → Calls Tryz.prog 95 #[.slice ca n cc] u fun e w' => Tn No u w' ∧ ∃ b, e = .returned (.tuple #[.map (some b), .bool true]) ∧ u.heap.size ≤ b ∧ IM .i64 3 w' b n m)
    (hr : ∀ x ∈ l, Rnd fd fn fc da dn dc zero name params regs slots ca n cc fs m x w) :
    Calls Tryz.prog 62 #[.agg #[.slice fd fn fc, .slice da dn dc, .int .i64 zero], .agg #[.string name, .int .i64 params, .int .i64 regs, .int .i64 slots, .slice ca n cc]] w fun e w' => e = .returned (.bool (l.all (wdF fs ((dn : Int) + zero) regs slots m))) ∧ Tn No w w' := by
  have HB := code_box fd fn fc da dn dc zero name params regs slots ca n cc w
  subst hca
  have HT : Hid (∀ u, Tn No ((w.alloc (.cells #[.slice fd fn fc, .slice da dn dc, .int .i64 zero] 25)).alloc (.cells #[.string name, .int .i64 params, .int .i64 regs, .int .i64 slots, .slice (some ⟨g, o, none⟩) n cc] 76)) u → Tn No w u) := hid (fun u t => (((Tn.refl No w).alloc _).alloc _).then t)
  have HL : Hid (∀ u, Calls Tryz.prog 94 #[.int .i64 k] u fun e w' => e = .returned (.bool true) ∧ w' = u) := hid (fun u => by rw [← hlv]; exact leaves_raw k u)
  obtain ⟨R, hR⟩ : ∃ R, l.all (wdF fs ((dn : Int) + zero) regs slots m) = R := ⟨_, rfl⟩
  have HR := hid hR
  rw [hR]
  have HLN := hid hln
  have HRR := hid hr
  have HAT := hid hcell
  obtain ⟨mm, rfl⟩ : ∃ mm, n = mm + 1 := ⟨n - 1, by omega⟩
  simp only [Nat.add_sub_cancel] at hk
  have HLB := hid (hlab ((w.alloc (.cells #[.slice fd fn fc, .slice da dn dc, .int .i64 zero] 25)).alloc (.cells #[.string name, .int .i64 params, .int .i64 regs, .int .i64 slots, .slice (some ⟨g, o, none⟩) (mm + 1) cc] 76)) (HT.out _ (Tn.refl _ _)))
  have hc : (((w.alloc (.cells #[.slice fd fn fc, .slice da dn dc, .int .i64 zero] 25)).alloc (.cells #[.string name, .int .i64 params, .int .i64 regs, .int .i64 slots, .slice (some ⟨g, o, none⟩) (mm + 1) cc] 76))).cell? ⟨g, o + mm * 11, none⟩ = some (.int .i64 k) := by
    rw [Tn.cell (HT.out _ (Tn.refl _ _)) hg (fun e => e)]; exact hk
  have HG := hid hg
  have hm1 : ((mm + 1 : Nat) : Int) - 1 = (mm : Int) := by omega
  have hm2 : (((mm + 1 : Nat) : Int) == 0) = false := by simp; omega
  have hm3 : (mm : Int) + 1 - 1 = (mm : Int) := by omega
  have hm4 : ((mm : Int) + 1 == 0) = false := by simp; omega
  have hm0 : 0 ≤ (mm : Int) := by omega
  clear hk hlv hlab hR hln hr hcell hg
  go_enter Tryz.func62, Tryz.ntmps62
  go_wp2_with (first
    | (go_at_call 94; refine (HL.out _).mono ?_; rintro e w2 ⟨rfl, rfl⟩)
    | (go_at_call 95; refine HLB.out.mono ?_; rintro e w3 ⟨t3, mb, rfl, hmb, him⟩; have HT3 := hid t3; have HIM := hid him; obtain ⟨p0, p1, p2, f0, f1, f2, f3, f4, pz⟩ := HB.out _ t3; clear t3 him))
  clear HLB hc HL
  have hmz : mb < w3.heap.size := HIM.out.lt
  go_loopw [39] (fun i wr => ∃ q : Nat, q ≤ mm + 1 ∧ i = .int .i64 (q : Int) ∧ Hid ((l.take q).all (wdF fs ((dn : Int) + zero) regs slots m) = true) ∧ Hid (Tn No w3 wr)) (fun i _ => (mm + 1) - (intOf i).toNat)
  case atStart => exact ⟨0, by omega, rfl, hid rfl, hid (Tn.refl _ _)⟩
  case round =>
    obtain ⟨q, hq, rfl, HAL, HTR⟩ := hrel
    clear p0 p1 p2 f0 f1 f2 f3 f4 pz
    have HTW : Hid (Tn No w wr) := hid (HT.out _ (HT3.out.then HTR.out))
    obtain ⟨p0, p1, p2, f0, f1, f2, f3, f4, pz⟩ := HB.out _ (HT3.out.then HTR.out)
    by_cases hlt : q < mm + 1
    · have hql : q < l.length := by have := HLN.out; omega
      have hcr : ∀ i (hi : i < l.length) j, j < 11 → wr.cell? ⟨g, o + (i * 11 + j), none⟩ = (eW l[i])[j]? := fun i hi j hj => by rw [HTW.out.cell HG.out (fun e => e)]; exact HAT.out i hi j hj
      obtain ⟨q0, q1, q2, q3, q4, q5, q6, q7, q8, q9, q10⟩ := word_cells hcr q hql
      have hrx := HRR.out l[q] (List.getElem_mem hql)
      have HY : Hid (wdF fs ((dn : Int) + zero) regs slots m l[q] = true → (l.take (q + 1)).all (wdF fs ((dn : Int) + zero) regs slots m) = true) := hid (fun e => all_take_succ hql HAL.out e)
      have HN : Hid (wdF fs ((dn : Int) + zero) regs slots m l[q] = false → R = false) := hid (fun e => by rw [← HR.out]; exact all_false hql e)
      obtain ⟨x, hx⟩ : ∃ x, l[q] = x := ⟨_, rfl⟩
      rw [hx] at q0 q1 q2 q3 q4 q5 q6 q7 q8 q9 q10 hrx HY HN
      obtain ⟨xk, xd, xa, xb, xl, xf, xc, xr, xs, xi, xv, xargs⟩ := x
      obtain ⟨hpl, him, hcl, hlo, va, vc', hxv⟩ := hrx
      simp only [Wd.val] at q0 q1 q2 q3 q4 q5 q6 q7 q8 q9 q10 hpl him hcl hlo hxv
      subst hxv
      have HV : Hid (wdF fs ((dn : Int) + zero) regs slots m ⟨xk, xd, xa, xb, xl, xf, xc, xr, xs, xi, .slice va xargs.length vc', xargs⟩ = (decide (fieldsF xk ≠ 0) && placesF regs ⟨xk, xd, xa, xb, xl, xf, xc, xr, xs, xi, .slice va xargs.length vc', xargs⟩ && immF ((dn : Int) + zero) slots ⟨xk, xd, xa, xb, xl, xf, xc, xr, xs, xi, .slice va xargs.length vc', xargs⟩ && callF fs ⟨xk, xd, xa, xb, xl, xf, xc, xr, xs, xi, .slice va xargs.length vc', xargs⟩ && howF xk xc xr xs && ((m xl).isSome || !bit 8 xk))) := hid rfl
      rw [HV.out] at HY HN
      clear HV
      obtain ⟨b2, hb2⟩ : ∃ b, placesF regs ⟨xk, xd, xa, xb, xl, xf, xc, xr, xs, xi, .slice va xargs.length vc', xargs⟩ = b := ⟨_, rfl⟩
      obtain ⟨b3, hb3⟩ : ∃ b, immF ((dn : Int) + zero) slots ⟨xk, xd, xa, xb, xl, xf, xc, xr, xs, xi, .slice va xargs.length vc', xargs⟩ = b := ⟨_, rfl⟩
      obtain ⟨b4, hb4⟩ : ∃ b, callF fs ⟨xk, xd, xa, xb, xl, xf, xc, xr, xs, xi, .slice va xargs.length vc', xargs⟩ = b := ⟨_, rfl⟩
      rw [hb2] at HY HN hpl
      rw [hb3] at HY HN him
      rw [hb4] at HY HN hcl
      have hho := fun u => how_raw xk xd xa xb xl xf xc xr xs xi (.slice va xargs.length vc') u
      obtain ⟨b5, hb5⟩ : ∃ b, howF xk xc xr xs = b := ⟨_, rfl⟩
      rw [hb5] at HY HN hho
      clear hb2 hb3 hb4 hb5 hx hcr
      generalize xargs.length = vn at *
      have HPL := hid hpl
      have HIM1 := hid him
      have HCL := hid hcl
      have HHO := hid hho
      have hqi : (q : Int) < (mm : Int) + 1 := by omega
      have HBX : Hid (∀ u, Tn No (wr.alloc (.cells #[.int .i64 xk, .int .i64 xd, .int .i64 xa, .int .i64 xb, .int .i64 xl, .int .i64 xf, .int .i64 xc, .int .i64 xr, .int .i64 xs, .int .i64 xi, .slice va vn vc'] 79)) u → u.cell? ⟨w.heap.size, 0, none⟩ = some (.slice fd fn fc) ∧ u.cell? ⟨w.heap.size, 1, none⟩ = some (.slice da dn dc) ∧ u.cell? ⟨w.heap.size, 2, none⟩ = some (.int .i64 zero) ∧ u.cell? ⟨w.heap.size + 1, 0, none⟩ = some (.string name) ∧ u.cell? ⟨w.heap.size + 1, 1, none⟩ = some (.int .i64 params) ∧ u.cell? ⟨w.heap.size + 1, 2, none⟩ = some (.int .i64 regs) ∧ u.cell? ⟨w.heap.size + 1, 3, none⟩ = some (.int .i64 slots) ∧ u.cell? ⟨w.heap.size + 1, 4, none⟩ = some (.slice (some ⟨g, o, none⟩) (mm + 1) cc) ∧ u.cell? ⟨wr.heap.size, 0, none⟩ = some (.int .i64 xk) ∧ u.cell? ⟨wr.heap.size, 1, none⟩ = some (.int .i64 xd) ∧ u.cell? ⟨wr.heap.size, 2, none⟩ = some (.int .i64 xa) ∧ u.cell? ⟨wr.heap.size, 3, none⟩ = some (.int .i64 xb) ∧ u.cell? ⟨wr.heap.size, 4, none⟩ = some (.int .i64 xl) ∧ u.cell? ⟨wr.heap.size, 5, none⟩ = some (.int .i64 xf) ∧ u.cell? ⟨wr.heap.size, 6, none⟩ = some (.int .i64 xc) ∧ u.cell? ⟨wr.heap.size, 7, none⟩ = some (.int .i64 xr) ∧ u.cell? ⟨wr.heap.size, 8, none⟩ = some (.int .i64 xs) ∧ u.cell? ⟨wr.heap.size, 9, none⟩ = some (.int .i64 xi) ∧ u.cell? ⟨wr.heap.size, 10, none⟩ = some (.slice va vn vc') ∧ wr.heap.size < u.heap.size ∧ w.heap.size + 1 < u.heap.size ∧ Tn No w u) := hid (fun u t => by
        have tu := (((Tn.refl No wr).alloc _).then t)
        obtain ⟨p0, p1, p2, f0, f1, f2, f3, f4, pz⟩ := HB.out u ((HT3.out.then HTR.out).then tu)
        have ex : ∀ i, u.cell? ⟨wr.heap.size, i, none⟩ = #[.int .i64 xk, .int .i64 xd, .int .i64 xa, .int .i64 xb, .int .i64 xl, .int .i64 xf, .int .i64 xc, .int .i64 xr, .int .i64 xs, .int .i64 xi, .slice va vn vc'][i]? := fun i => by
          rw [t.cell (by simp) (fun e => e)]
          exact World.cell?_alloc_mark _ _ _ _ i
        exact ⟨p0, p1, p2, f0, f1, f2, f3, f4, ex 0, ex 1, ex 2, ex 3, ex 4, ex 5, ex 6, ex 7, ex 8, ex 9, ex 10, by have := t.size; simp at this; omega, pz, HTW.out.then tu⟩)
      have HW1 : Hid (Tn No w (wr.alloc (.cells #[.int .i64 xk, .int .i64 xd, .int .i64 xa, .int .i64 xb, .int .i64 xl, .int .i64 xf, .int .i64 xc, .int .i64 xr, .int .i64 xs, .int .i64 xi, .slice va vn vc'] 79))) := hid (HTW.out.alloc _)
      have HRD : Hid (∀ u, Tn No (wr.alloc (.cells #[.int .i64 xk, .int .i64 xd, .int .i64 xa, .int .i64 xb, .int .i64 xl, .int .i64 xf, .int .i64 xc, .int .i64 xr, .int .i64 xs, .int .i64 xi, .slice va vn vc'] 79)) u → Tn No w3 u) := hid (fun u t => HTR.out.then (((Tn.refl No wr).alloc _).then t))
      obtain ⟨yo, hyo⟩ : ∃ yo, m xl = yo := ⟨_, rfl⟩
      have HLK : Hid (∀ u, Tn No (wr.alloc (.cells #[.int .i64 xk, .int .i64 xd, .int .i64 xa, .int .i64 xb, .int .i64 xl, .int .i64 xf, .int .i64 xc, .int .i64 xr, .int .i64 xs, .int .i64 xi, .slice va vn vc'] 79)) u → (Instr.lookup 80 (.map (some mb)) (.int .i64 xl) true).run Tryz.prog u = .ok (.tuple #[.int .i64 ((yo.getD 0 : Nat) : Int), .bool yo.isSome]) u) := hid (fun u t => by
        rw [← hyo]
        exact (HIM.out.kept ((HRD.out u t).block _ hmz (fun e => e))).look Tryz.underlying3 Tryz.underlying80 (zeroInt u) xl (i64_wf hlo))
      obtain ⟨yn, hyn⟩ : ∃ yn, yo.getD 0 = yn := ⟨_, rfl⟩
      obtain ⟨yb, hyb⟩ : ∃ yb, yo.isSome = yb := ⟨_, rfl⟩
      rw [hyo, hyb] at HY HN
      rw [hyn, hyb] at HLK
      have HFi : Hid (∀ u, Calls Tryz.prog 96 #[.int .i64 xk] u fun e w' => e = .returned (.int .i64 (fieldsF xk)) ∧ w' = u) := hid (fun u => fields_raw xk u)
      have HB8 : Hid ((bits BinOp.and IntKind.i64 (fieldsF xk) 8 != 0) = bit 8 xk) := hid fields_bit8
      obtain ⟨v8, hv8⟩ : ∃ v8, bit 8 xk = v8 := ⟨_, rfl⟩
      rw [hv8] at HY HN HB8
      obtain ⟨v, hv⟩ : ∃ v, fieldsF xk = v := ⟨_, rfl⟩
      rw [hv] at HY HN HFi HB8
      clear hpl him hcl hho hyo hyn hyb hv hv8 hlo HAT HRR HIM HR HB HTR HAL HG HTW HT3
      by_cases hv0 : v = 0
      · subst hv0
        go_wp2_with (first
          | (go_at_call 96; refine (HFi.out _).mono ?_; rintro e w4 ⟨rfl, rfl⟩)
          | fail)
        go_ret
        exact ⟨ret_bool (HN.out (by first | rfl | simp)).symm, HW1.out⟩
      have n0 : (v == 0) = false := by simpa using hv0
      cases b2 with
      | false =>
        go_wp2_with (first
          | (go_at_call 96; refine (HFi.out _).mono ?_; rintro e w4 ⟨rfl, rfl⟩)
          | (go_at_call 97; refine (HPL.out _ HW1.out).mono ?_; rintro e w5 ⟨rfl, t5⟩; obtain ⟨p0, p1, p2, f0, f1, f2, f3, f4, x0, x1, x2, x3, x4, x5, x6, x7, x8, x9, x10, zx, pz, tw5⟩ := HBX.out w5 t5)
          | fail)
        go_ret
        exact ⟨ret_bool (HN.out (by first | rfl | simp)).symm, tw5⟩
      | true =>
      cases b3 with
      | false =>
        go_wp2_with (first
          | (go_at_call 96; refine (HFi.out _).mono ?_; rintro e w4 ⟨rfl, rfl⟩)
          | (go_at_call 97; refine (HPL.out _ HW1.out).mono ?_; rintro e w5 ⟨rfl, t5⟩; obtain ⟨p0, p1, p2, f0, f1, f2, f3, f4, x0, x1, x2, x3, x4, x5, x6, x7, x8, x9, x10, zx, pz, tw5⟩ := HBX.out w5 t5)
          | (go_at_call 98; refine (HIM1.out w5 tw5).mono ?_; rintro e w6 ⟨rfl, t6'⟩; have t6 := t5.then t6'; obtain ⟨p0, p1, p2, f0, f1, f2, f3, f4, x0, x1, x2, x3, x4, x5, x6, x7, x8, x9, x10, zx, pz, tw6⟩ := HBX.out w6 t6)
          | fail)
        go_ret
        exact ⟨ret_bool (HN.out (by first | rfl | simp)).symm, tw6⟩
      | true =>
      cases b4 with
      | false =>
        go_wp2_with (first
          | (go_at_call 96; refine (HFi.out _).mono ?_; rintro e w4 ⟨rfl, rfl⟩)
          | (go_at_call 97; refine (HPL.out _ HW1.out).mono ?_; rintro e w5 ⟨rfl, t5⟩; obtain ⟨p0, p1, p2, f0, f1, f2, f3, f4, x0, x1, x2, x3, x4, x5, x6, x7, x8, x9, x10, zx, pz, tw5⟩ := HBX.out w5 t5)
          | (go_at_call 98; refine (HIM1.out w5 tw5).mono ?_; rintro e w6 ⟨rfl, t6'⟩; have t6 := t5.then t6'; obtain ⟨p0, p1, p2, f0, f1, f2, f3, f4, x0, x1, x2, x3, x4, x5, x6, x7, x8, x9, x10, zx, pz, tw6⟩ := HBX.out w6 t6)
          | (go_at_call 99; refine (HCL.out w6 tw6).mono ?_; rintro e w7 ⟨rfl, t7'⟩; have t7 := t6.then t7'; obtain ⟨p0, p1, p2, f0, f1, f2, f3, f4, x0, x1, x2, x3, x4, x5, x6, x7, x8, x9, x10, zx, pz, tw7⟩ := HBX.out w7 t7)
          | fail)
        go_ret
        exact ⟨ret_bool (HN.out (by first | rfl | simp)).symm, tw7⟩
      | true =>
      cases b5 with
      | false =>
        go_wp2_with (first
          | (go_at_call 96; refine (HFi.out _).mono ?_; rintro e w4 ⟨rfl, rfl⟩)
          | (go_at_call 97; refine (HPL.out _ HW1.out).mono ?_; rintro e w5 ⟨rfl, t5⟩; obtain ⟨p0, p1, p2, f0, f1, f2, f3, f4, x0, x1, x2, x3, x4, x5, x6, x7, x8, x9, x10, zx, pz, tw5⟩ := HBX.out w5 t5)
          | (go_at_call 98; refine (HIM1.out w5 tw5).mono ?_; rintro e w6 ⟨rfl, t6'⟩; have t6 := t5.then t6'; obtain ⟨p0, p1, p2, f0, f1, f2, f3, f4, x0, x1, x2, x3, x4, x5, x6, x7, x8, x9, x10, zx, pz, tw6⟩ := HBX.out w6 t6)
          | (go_at_call 99; refine (HCL.out w6 tw6).mono ?_; rintro e w7 ⟨rfl, t7'⟩; have t7 := t6.then t7'; obtain ⟨p0, p1, p2, f0, f1, f2, f3, f4, x0, x1, x2, x3, x4, x5, x6, x7, x8, x9, x10, zx, pz, tw7⟩ := HBX.out w7 t7)
          | (go_at_call 100; refine (HHO.out w7).mono ?_; rintro e w8 ⟨rfl, t8'⟩; have t8 := t7.then t8'; obtain ⟨p0, p1, p2, f0, f1, f2, f3, f4, x0, x1, x2, x3, x4, x5, x6, x7, x8, x9, x10, zx, pz, tw8⟩ := HBX.out w8 t8)
          | fail)
        go_ret
        exact ⟨ret_bool (HN.out (by first | rfl | simp)).symm, tw8⟩
      | true =>
      cases yb with
      | true =>
        go_wp2_with (first
          | (go_at_call 96; refine (HFi.out _).mono ?_; rintro e w4 ⟨rfl, rfl⟩)
          | (go_at_call 97; refine (HPL.out _ HW1.out).mono ?_; rintro e w5 ⟨rfl, t5⟩; obtain ⟨p0, p1, p2, f0, f1, f2, f3, f4, x0, x1, x2, x3, x4, x5, x6, x7, x8, x9, x10, zx, pz, tw5⟩ := HBX.out w5 t5)
          | (go_at_call 98; refine (HIM1.out w5 tw5).mono ?_; rintro e w6 ⟨rfl, t6'⟩; have t6 := t5.then t6'; obtain ⟨p0, p1, p2, f0, f1, f2, f3, f4, x0, x1, x2, x3, x4, x5, x6, x7, x8, x9, x10, zx, pz, tw6⟩ := HBX.out w6 t6)
          | (go_at_call 99; refine (HCL.out w6 tw6).mono ?_; rintro e w7 ⟨rfl, t7'⟩; have t7 := t6.then t7'; obtain ⟨p0, p1, p2, f0, f1, f2, f3, f4, x0, x1, x2, x3, x4, x5, x6, x7, x8, x9, x10, zx, pz, tw7⟩ := HBX.out w7 t7)
          | (go_at_call 100; refine (HHO.out w7).mono ?_; rintro e w8 ⟨rfl, t8'⟩; have t8 := t7.then t8'; obtain ⟨p0, p1, p2, f0, f1, f2, f3, f4, x0, x1, x2, x3, x4, x5, x6, x7, x8, x9, x10, zx, pz, tw8⟩ := HBX.out w8 t8)
          | (at_lookup; refine wpList_lookw _ rfl _ _ true rfl _ rfl _ rfl _ (HLK.out w8 t8) ?_)
          | fail)
        go_roundw
        case rel => exact ⟨q + 1, by omega, by go_num, hid (HY.out (by first | rfl | simp [hv0])), hid (HRD.out _ t8)⟩
        case measure => simp [intOf]; omega
      | false =>
      cases v8 with
      | false =>
        have e8 := HB8.out
        go_wp2_with (first
          | (go_at_call 96; refine (HFi.out _).mono ?_; rintro e w4 ⟨rfl, rfl⟩)
          | (go_at_call 97; refine (HPL.out _ HW1.out).mono ?_; rintro e w5 ⟨rfl, t5⟩; obtain ⟨p0, p1, p2, f0, f1, f2, f3, f4, x0, x1, x2, x3, x4, x5, x6, x7, x8, x9, x10, zx, pz, tw5⟩ := HBX.out w5 t5)
          | (go_at_call 98; refine (HIM1.out w5 tw5).mono ?_; rintro e w6 ⟨rfl, t6'⟩; have t6 := t5.then t6'; obtain ⟨p0, p1, p2, f0, f1, f2, f3, f4, x0, x1, x2, x3, x4, x5, x6, x7, x8, x9, x10, zx, pz, tw6⟩ := HBX.out w6 t6)
          | (go_at_call 99; refine (HCL.out w6 tw6).mono ?_; rintro e w7 ⟨rfl, t7'⟩; have t7 := t6.then t7'; obtain ⟨p0, p1, p2, f0, f1, f2, f3, f4, x0, x1, x2, x3, x4, x5, x6, x7, x8, x9, x10, zx, pz, tw7⟩ := HBX.out w7 t7)
          | (go_at_call 100; refine (HHO.out w7).mono ?_; rintro e w8 ⟨rfl, t8'⟩; have t8 := t7.then t8'; obtain ⟨p0, p1, p2, f0, f1, f2, f3, f4, x0, x1, x2, x3, x4, x5, x6, x7, x8, x9, x10, zx, pz, tw8⟩ := HBX.out w8 t8)
          | (at_lookup; refine wpList_lookw _ rfl _ _ true rfl _ rfl _ rfl _ (HLK.out w8 t8) ?_)
          | fail)
        go_roundw
        case rel => exact ⟨q + 1, by omega, by go_num, hid (HY.out (by first | rfl | simp [hv0])), hid (HRD.out _ t8)⟩
        case measure => simp [intOf]; omega
      | true =>
        have e8 := HB8.out
        go_wp2_with (first
          | (go_at_call 96; refine (HFi.out _).mono ?_; rintro e w4 ⟨rfl, rfl⟩)
          | (go_at_call 97; refine (HPL.out _ HW1.out).mono ?_; rintro e w5 ⟨rfl, t5⟩; obtain ⟨p0, p1, p2, f0, f1, f2, f3, f4, x0, x1, x2, x3, x4, x5, x6, x7, x8, x9, x10, zx, pz, tw5⟩ := HBX.out w5 t5)
          | (go_at_call 98; refine (HIM1.out w5 tw5).mono ?_; rintro e w6 ⟨rfl, t6'⟩; have t6 := t5.then t6'; obtain ⟨p0, p1, p2, f0, f1, f2, f3, f4, x0, x1, x2, x3, x4, x5, x6, x7, x8, x9, x10, zx, pz, tw6⟩ := HBX.out w6 t6)
          | (go_at_call 99; refine (HCL.out w6 tw6).mono ?_; rintro e w7 ⟨rfl, t7'⟩; have t7 := t6.then t7'; obtain ⟨p0, p1, p2, f0, f1, f2, f3, f4, x0, x1, x2, x3, x4, x5, x6, x7, x8, x9, x10, zx, pz, tw7⟩ := HBX.out w7 t7)
          | (go_at_call 100; refine (HHO.out w7).mono ?_; rintro e w8 ⟨rfl, t8'⟩; have t8 := t7.then t8'; obtain ⟨p0, p1, p2, f0, f1, f2, f3, f4, x0, x1, x2, x3, x4, x5, x6, x7, x8, x9, x10, zx, pz, tw8⟩ := HBX.out w8 t8)
          | (at_lookup; refine wpList_lookw _ rfl _ _ true rfl _ rfl _ rfl _ (HLK.out w8 t8) ?_)
          | fail)
        go_ret
        exact ⟨ret_bool (HN.out (by first | rfl | simp)).symm, tw8⟩
    · obtain rfl : q = mm + 1 := by omega
      have HE : Hid (R = true) := hid (by rw [← HR.out]; have := HAL.out; rw [List.take_of_length_le (by have := HLN.out; omega)] at this; exact this)
      clear HAT HRR HIM HR HB HAL
      go_wp2_with fail
      go_ret
      exact ⟨ret_bool HE.out.symm, HTW.out⟩
end
end Go.Proofs.YtoidddfpekbliaaGreat
