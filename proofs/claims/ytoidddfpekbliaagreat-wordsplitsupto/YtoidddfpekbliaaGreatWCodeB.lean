/-
  word: a function's instructions may be; lines. Made by gen_wcode.py.
-/
import Derived.Test.YtoidddfpekbliaaGreatWJ11
namespace Go.Proofs.YtoidddfpekbliaaGreat
set_option linter.unusedSimpArgs false
set_option linter.unusedVariables false
open Go.RowKit
attribute [local go_sem ↓] Go.wp_at_zero Go.wp_at_succ

/-- a function's cells in a list -/
theorem fun_cells {w : World} {g o : Nat} {l : List Wf} (h : ∀ i (hi : i < l.length) j, j < 5 → w.cell? ⟨g, o + (i * 5 + j), none⟩ = (eF l[i])[j]?) (q : Nat) (hq : q < l.length) :
    w.cell? ⟨g, o + q * 5, none⟩ = some (.string l[q].name) ∧ w.cell? ⟨g, o + q * 5 + 1, none⟩ = some (.int .i64 l[q].params) ∧ w.cell? ⟨g, o + q * 5 + 2, none⟩ = some (.int .i64 l[q].regs) ∧ w.cell? ⟨g, o + q * 5 + 3, none⟩ = some (.int .i64 l[q].slots) ∧ w.cell? ⟨g, o + q * 5 + 4, none⟩ = some l[q].cv := by
  have e : ∀ j, j < 5 → w.cell? ⟨g, o + q * 5 + j, none⟩ = (eF l[q])[j]? := fun j hj => by rw [Nat.add_assoc]; exact h q hq j hj
  exact ⟨e 0 (by omega), e 1 (by omega), e 2 (by omega), e 3 (by omega), e 4 (by omega)⟩

def sumC (fs : List Wf) : Nat := (fs.map (fun f => f.code.length)).sum
theorem sumC_take {fs : List Wf} {q : Nat} (hq : q < fs.length) : sumC (fs.take (q + 1)) = sumC (fs.take q) + fs[q].code.length := by
  unfold sumC
  rw [List.take_add_one, List.getElem?_eq_getElem hq, List.map_append, List.sum_append]
  simp only [Option.toList_some, List.map_cons, List.map_nil, List.sum_cons, List.sum_nil, Nat.add_zero]
theorem sumC_le (fs : List Wf) (q : Nat) : sumC (fs.take q) ≤ sumC fs := by
  have : sumC fs = sumC (fs.take q) + sumC (fs.drop q) := by
    unfold sumC
    rw [← List.sum_append, ← List.map_append, List.take_append_drop]
  omega

set_option maxHeartbeats 1000000 in
set_option maxRecDepth 100000 in
theorem lines_raw (p : Wp) (w : World) (hp : LD 5 eF w p.fv p.funs) (hcv : ∀ f ∈ p.funs, (∃ a c, f.cv = .slice a f.code.length c) ∧ f.code.length ≤ 1073741824) (hl : p.funs.length ≤ 1073741824) (hdv : ∃ a n c, p.dv = .slice a n c) :
    Calls Tryz.prog 60 #[p.val] w fun e w' => e = .returned (.bool (linesF p.funs)) ∧ Tn No w w' := by
  obtain ⟨fv, funs, dv, data, zero⟩ := p
  simp only at hp hcv hl hdv
  obtain ⟨fd, fc, rfl, hfc, hfm, hat⟩ := hp
  obtain ⟨da, dn, dc, rfl⟩ := hdv
  simp only [Wp.val]
  have HAT := hid hat
  have HCV := hid hcv
  obtain ⟨fn, hfn⟩ : ∃ fn, funs.length = fn := ⟨_, rfl⟩
  have HN := hid hfn
  rw [hfn] at hfc hl
  rw [hfn]
  have HE : Hid (linesF funs = decide (sumC funs ≤ 4194304)) := hid rfl
  have HT0 : Hid (Tn No w (w.alloc (.cells #[.slice fd fn fc, .slice da dn dc, .int .i64 zero] 25))) := hid ((Tn.refl No w).alloc _)
  clear hat hcv hfn
  go_enter Tryz.func60, Tryz.ntmps60
  go_wp2_with fail
  go_loopw [3, 9] (fun lv i wr => ∃ q : Nat, q ≤ fn ∧ i = .int .i64 (q : Int) ∧ ∃ L : Int, lv = .int .i64 L ∧ 0 ≤ L ∧ L ≤ 4194304 ∧ Hid (L = 4194304 - (sumC (funs.take q) : Int)) ∧ Hid (Tn No w wr)) (fun _ i _ => fn - (intOf i).toNat)
  case atStart => exact ⟨0, by omega, rfl, 4194304, rfl, by omega, by omega, hid (by simp [sumC]), HT0⟩
  case round =>
    obtain ⟨q, hq, rfl, L, rfl, hL, hL2, HL, HT⟩ := hrel
    clear HT0
    by_cases hlt : q < fn
    · have hql : q < funs.length := by have := HN.out; omega
      obtain ⟨g, o, rfl, hg, hcell⟩ := HAT.out (by omega)
      have hcr : ∀ i (hi : i < funs.length) j, j < 5 → wr.cell? ⟨g, o + (i * 5 + j), none⟩ = (eF funs[i])[j]? := fun i hi j hj => by rw [HT.out.cell hg (fun e => e)]; exact hcell i hi j hj
      obtain ⟨q0, q1, q2, q3, q4⟩ := fun_cells hcr q hql
      have HST := hid (sumC_take hql)
      have HLE := hid (sumC_le funs (q + 1))
      obtain ⟨⟨va, vc', hxv⟩, hxl⟩ := HCV.out funs[q] (List.getElem_mem hql)
      obtain ⟨x, hx⟩ : ∃ x, funs[q] = x := ⟨_, rfl⟩
      rw [hx] at q0 q1 q2 q3 q4 HST hxv hxl
      obtain ⟨nm, pa, re, sl, cv, code⟩ := x
      simp only at q0 q1 q2 q3 q4 HST hxv hxl
      subst hxv
      generalize code.length = vn at *
      have HTA : Hid (∀ o, Hid (Tn No w (wr.alloc o))) := hid (fun o => hid (HT.out.alloc o))
      have hqi : (q : Int) < (fn : Int) := by omega
      clear hcr hx hcell HAT HCV hg HN
      by_cases hgt : L < (vn : Int)
      · have HF : Hid (linesF funs = false) := hid (by rw [HE.out]; have := HL.out; have := HST.out; have := HLE.out; simp; omega)
        clear HL HST HLE
        go_wp2_with fail
        go_ret
        exact ⟨ret_bool (by rw [HF.out]), (HTA.out _).out⟩
      · have hgt' : (vn : Int) ≤ L := by omega
        have HL2 : Hid (L - (vn : Int) = 4194304 - (sumC (funs.take (q + 1)) : Int)) := hid (by have := HL.out; have := HST.out; omega)
        clear hgt HL HST HLE
        go_wp2_with fail
        go_roundw
        case rel => exact ⟨q + 1, by omega, by go_num, L - (vn : Int), rfl, by omega, by omega, HL2, HTA.out _⟩
        case measure => simp [intOf]; omega
    · obtain rfl : q = fn := by omega
      have HF : Hid (linesF funs = true) := hid (by rw [HE.out]; have := HL.out; rw [List.take_of_length_le (by have := HN.out; omega)] at this; simp; omega)
      clear HL HAT HCV
      go_wp2_with fail
      go_ret
      exact ⟨ret_bool (by rw [HF.out]), HT.out⟩


section
variable (fd : Option Addr) (fn fc : Nat) (da : Option Addr) (dn dc : Nat) (zero : Int) (name : ByteArray) (params regs slots : Int) (ca : Option Addr) (n cc : Nat) (w : World)

/-- the cells of both, as the function holds them -/
theorem code_box : Hid (∀ u, Tn No ((w.alloc (.cells #[.slice fd fn fc, .slice da dn dc, .int .i64 zero] 25)).alloc (.cells #[.string name, .int .i64 params, .int .i64 regs, .int .i64 slots, .slice ca n cc] 76)) u → u.cell? ⟨w.heap.size, 0, none⟩ = some (.slice fd fn fc) ∧ u.cell? ⟨w.heap.size, 1, none⟩ = some (.slice da dn dc) ∧ u.cell? ⟨w.heap.size, 2, none⟩ = some (.int .i64 zero) ∧ u.cell? ⟨w.heap.size + 1, 0, none⟩ = some (.string name) ∧ u.cell? ⟨w.heap.size + 1, 1, none⟩ = some (.int .i64 params) ∧ u.cell? ⟨w.heap.size + 1, 2, none⟩ = some (.int .i64 regs) ∧ u.cell? ⟨w.heap.size + 1, 3, none⟩ = some (.int .i64 slots) ∧ u.cell? ⟨w.heap.size + 1, 4, none⟩ = some (.slice ca n cc) ∧ w.heap.size + 1 < u.heap.size) := by
  refine hid (fun u t => ?_)
  have e1 : ∀ o, u.cell? ⟨w.heap.size, o, none⟩ = #[.slice fd fn fc, .slice da dn dc, .int .i64 zero][o]? := fun o => by
    rw [Tn.cell (F := No) (a := w.alloc (.cells #[.slice fd fn fc, .slice da dn dc, .int .i64 zero] 25)) (((Tn.refl No _).alloc _).then t) (by simp) (fun e => e)]
    exact World.cell?_alloc_mark _ _ _ _ o
  have e2 : ∀ o, u.cell? ⟨w.heap.size + 1, o, none⟩ = #[.string name, .int .i64 params, .int .i64 regs, .int .i64 slots, .slice ca n cc][o]? := fun o => by
    rw [Tn.cell t (by simp) (fun e => e)]
    have e : w.heap.size + 1 = (w.alloc (.cells #[.slice fd fn fc, .slice da dn dc, .int .i64 zero] 25)).heap.size := by simp
    rw [e]
    exact World.cell?_alloc_mark _ _ _ _ o
  exact ⟨e1 0, e1 1, e1 2, e2 0, e2 1, e2 2, e2 3, e2 4, by have := t.size; simp at this; omega⟩

set_option maxRecDepth 100000 in
theorem code_empty : Calls Tryz.prog 62 #[.agg #[.slice fd fn fc, .slice da dn dc, .int .i64 zero], .agg #[.string name, .int .i64 params, .int .i64 regs, .int .i64 slots, .slice ca 0 cc]] w fun e w' => e = .returned (.bool false) ∧ Tn No w w' := by
  have HT : Hid (∀ A B, Tn No w ((w.alloc A).alloc B)) := hid (fun A B => ((Tn.refl No w).alloc A).alloc B)
  go_enter Tryz.func62, Tryz.ntmps62
  go_wp2_with fail
  go_ret
  exact ⟨rfl, HT.out _ _⟩

set_option maxHeartbeats 1000000 in
set_option maxRecDepth 100000 in
theorem code_last (g o : Nat) (hca : ca = some ⟨g, o, none⟩) (hg : g < w.heap.size) (hn : 0 < n) (hnl : n ≤ 1073741824) (k : Int) (hk : w.cell? ⟨g, o + (n - 1) * 11, none⟩ = some (.int .i64 k)) (hlv : leavesF k = false) :
    Calls Tryz.prog 62 #[.agg #[.slice fd fn fc, .slice da dn dc, .int .i64 zero], .agg #[.string name, .int .i64 params, .int .i64 regs, .int .i64 slots, .slice ca n cc]] w fun e w' => e = .returned (.bool false) ∧ Tn No w w' := by
  subst hca
  have HT : Hid (∀ A B, Tn No w ((w.alloc A).alloc B)) := hid (fun A B => ((Tn.refl No w).alloc A).alloc B)
  have HL : Hid (∀ u, Calls Tryz.prog 94 #[.int .i64 k] u fun e w' => e = .returned (.bool false) ∧ w' = u) := hid (fun u => by rw [← hlv]; exact leaves_raw k u)
  obtain ⟨m, rfl⟩ : ∃ m, n = m + 1 := ⟨n - 1, by omega⟩
  simp only [Nat.add_sub_cancel] at hk
  have hc : ((w.alloc (.cells #[.slice fd fn fc, .slice da dn dc, .int .i64 zero] 25)).alloc (.cells #[.string name, .int .i64 params, .int .i64 regs, .int .i64 slots, .slice (some ⟨g, o, none⟩) (m + 1) cc] 76)).cell? ⟨g, o + m * 11, none⟩ = some (.int .i64 k) := by
    rw [Tn.cell (HT.out _ _) hg (fun e => e)]; exact hk
  have hm1 : ((m + 1 : Nat) : Int) - 1 = (m : Int) := by omega
  have hm2 : (((m + 1 : Nat) : Int) == 0) = false := by simp; omega
  have hm3 : (m : Int) + 1 - 1 = (m : Int) := by omega
  have hm4 : ((m : Int) + 1 == 0) = false := by simp; omega
  have hm0 : 0 ≤ (m : Int) := by omega
  clear hk hlv
  go_enter Tryz.func62, Tryz.ntmps62
  go_wp2_with (go_at_call 94; refine (HL.out _).mono ?_; rintro e w2 ⟨rfl, rfl⟩)
  go_ret
  exact ⟨rfl, HT.out _ _⟩

set_option maxHeartbeats 1000000 in
set_option maxRecDepth 100000 in
theorem code_twice (g o : Nat) (hca : ca = some ⟨g, o, none⟩) (hg : g < w.heap.size) (hn : 0 < n) (hnl : n ≤ 1073741824) (k : Int) (hk : w.cell? ⟨g, o + (n - 1) * 11, none⟩ = some (.int .i64 k)) (hlv : leavesF k = true)
    (hlab : ∀ u, Tn No w u → Calls Tryz.prog 95 #[.slice ca n cc] u fun e w' => e = .returned (.tuple #[.map none, .bool false]) ∧ Tn No u w') :
    Calls Tryz.prog 62 #[.agg #[.slice fd fn fc, .slice da dn dc, .int .i64 zero], .agg #[.string name, .int .i64 params, .int .i64 regs, .int .i64 slots, .slice ca n cc]] w fun e w' => e = .returned (.bool false) ∧ Tn No w w' := by
  subst hca
  have HT : Hid (∀ A B u, Tn No ((w.alloc A).alloc B) u → Tn No w u) := hid (fun A B u t => (((Tn.refl No w).alloc A).alloc B).then t)
  have HL : Hid (∀ u, Calls Tryz.prog 94 #[.int .i64 k] u fun e w' => e = .returned (.bool true) ∧ w' = u) := hid (fun u => by rw [← hlv]; exact leaves_raw k u)
  obtain ⟨m, rfl⟩ : ∃ m, n = m + 1 := ⟨n - 1, by omega⟩
  simp only [Nat.add_sub_cancel] at hk
  have HLB := hid (hlab ((w.alloc (.cells #[.slice fd fn fc, .slice da dn dc, .int .i64 zero] 25)).alloc (.cells #[.string name, .int .i64 params, .int .i64 regs, .int .i64 slots, .slice (some ⟨g, o, none⟩) (m + 1) cc] 76)) (HT.out _ _ _ (Tn.refl _ _)))
  have hc : ((w.alloc (.cells #[.slice fd fn fc, .slice da dn dc, .int .i64 zero] 25)).alloc (.cells #[.string name, .int .i64 params, .int .i64 regs, .int .i64 slots, .slice (some ⟨g, o, none⟩) (m + 1) cc] 76)).cell? ⟨g, o + m * 11, none⟩ = some (.int .i64 k) := by
    rw [Tn.cell (HT.out _ _ _ (Tn.refl _ _)) hg (fun e => e)]; exact hk
  have hm1 : ((m + 1 : Nat) : Int) - 1 = (m : Int) := by omega
  have hm2 : (((m + 1 : Nat) : Int) == 0) = false := by simp; omega
  have hm3 : (m : Int) + 1 - 1 = (m : Int) := by omega
  have hm4 : ((m : Int) + 1 == 0) = false := by simp; omega
  have hm0 : 0 ≤ (m : Int) := by omega
  clear hk hlv hlab
  go_enter Tryz.func62, Tryz.ntmps62
  go_wp2_with (first
    | (go_at_call 94; refine (HL.out _).mono ?_; rintro e w2 ⟨rfl, rfl⟩)
    | (go_at_call 95; refine HLB.out.mono ?_; rintro e w3 ⟨rfl, t3⟩; have HT3 := hid t3; clear t3))
  go_ret
  exact ⟨rfl, HT.out _ _ _ HT3.out⟩
end
end Go.Proofs.YtoidddfpekbliaaGreat
