/-
  word: the graph of a function whose instructions are done one behind the other: newGraph.
-/
import Derived.Test.YtoidddfpekbliaaGreatWJ35
namespace Go.Proofs.YtoidddfpekbliaaGreat
set_option linter.unusedSimpArgs false
set_option linter.unusedVariables false
open Go.RowKit
attribute [local go_sem ↓] Go.wp_at_zero Go.wp_at_succ

/-- one behind the other -/
structure Flat (l : List Wd) : Prop where
  pos : 0 < l.length
  few : l.length ≤ 4194304
  no : ∀ i (hi : i < l.length), l[i].k ≠ 19 ∧ callsF l[i].k = false
  ends : ∀ i (hi : i + 1 < l.length), endsF (l[i]'(by omega)).k = false
  last : (l[l.length - 1]'(by omega)).k ≠ 20 ∧ (l[l.length - 1]'(by omega)).k ≠ 21

/-- what the loop keeps -/
structure NG (w : World) (gp : Nat) (cv : Value) (l : List Wd) (q : Nat) (wr : World) : Prop where
  g : q = 0 → CN wr gp 2 (fun i => if i = 0 then cv else .slice none 0 0)
  b : ∀ j, q = j + 1 → ∃ bb cap, CN wr gp 2 (gc cv bb cap) ∧ CN wr bb 11 (bk 0 (q : Int) (!leavesF ((l[j]?).map Wd.k |>.getD 0)) false) ∧ w.heap.size ≤ bb ∧ bb ≠ gp
  tn : Tn No w wr
  lt : gp < wr.heap.size

theorem ng_end {w U : World} {gp bb cap q k : Nat} {cv : Value} {l : List Wd} {lv f : Bool} {t0 : Int} (hg : CN U gp 2 (gc cv bb cap)) (hb : CN U bb 11 (bk 0 t0 f false)) (hne : bb ≠ gp) (hbw : w.heap.size ≤ bb) (t : Tn No w U) (hl : leavesF ((l[q]?).map Wd.k |>.getD 0) = lv) :
    NG w gp cv l (q + 1) ((((U.drewN k).setCell ⟨bb, 1, none⟩ (.int .i32 ((q : Int) + 1))).setCell ⟨bb, 5, none⟩ (.bool !lv)).setCell ⟨bb, 6, none⟩ (.bool false)) := by
  have hb1 := (((hb.kept (w' := U.drewN k) rfl).set 1 (by omega) (.int .i32 ((q : Int) + 1))).set 5 (by omega) (.bool !lv)).set 6 (by omega) (.bool false)
  have hk : ∀ g, g ≠ bb → ((((U.drewN k).setCell ⟨bb, 1, none⟩ (.int .i32 ((q : Int) + 1))).setCell ⟨bb, 5, none⟩ (.bool !lv)).setCell ⟨bb, 6, none⟩ (.bool false)).heap[g]? = U.heap[g]? := fun g hg => by
    rw [Below.heap_setCell _ _ _ _ hg, Below.heap_setCell _ _ _ _ hg, Below.heap_setCell _ _ _ _ hg]; rfl
  have hg1 := hg.kept (hk gp (fun e => hne e.symm))
  refine ⟨fun e => by omega, fun j e => ?_, (((t.drewN k).set _ _ (fun e => ?_)).set _ _ (fun e => ?_)).set _ _ (fun e => ?_), hg1.lt⟩
  · obtain rfl : q = j := by omega
    refine ⟨bb, cap, hg1, hb1.congr (fun i hi => ?_), hbw, hne⟩
    rw [hl]
    have : i = 0 ∨ i = 1 ∨ i = 2 ∨ i = 3 ∨ i = 4 ∨ i = 5 ∨ i = 6 ∨ i = 7 ∨ i = 8 ∨ i = 9 ∨ i = 10 := by omega
    rcases this with rfl | rfl | rfl | rfl | rfl | rfl | rfl | rfl | rfl | rfl | rfl <;> first | rfl | (simp [upd, bk])
  all_goals (simp only at e; omega)

set_option maxHeartbeats 8000000 in
set_option maxRecDepth 100000 in
theorem newGraph_raw (cv : Value) (l : List Wd) (w : World) (h : LD 11 eW w cv l) (hf : ∀ x ∈ l, ∃ a c, x.av = .slice a x.args.length c) (hp : Flat l) :
    Calls Tryz.prog 64 #[cv] w fun e w' => ∃ bb cap, e = .returned (.pointer (some ⟨w.heap.size, 0, none⟩)) ∧ CN w' w.heap.size 2 (gc cv bb cap) ∧ CN w' bb 11 (bk 0 (l.length : Int) (!leavesF ((l[l.length - 1]?).map Wd.k |>.getD 0)) false) ∧ w.heap.size ≤ bb ∧ bb ≠ w.heap.size ∧ Tn No w w' := by
  have HFL := hid hp
  have HFO := hid hf
  obtain ⟨a, c, rfl, hc, hcm, hat⟩ := h
  have HAT := hid hat
  obtain ⟨n, hn⟩ : ∃ n, l.length = n := ⟨_, rfl⟩
  have HN := hid hn
  have hn0 := hp.pos
  have hn1 := hp.few
  rw [hn] at hc hn0 hn1
  rw [hn]
  have hmm := @run_makeMap Tryz.prog
  have HG0 : Hid (NG w w.heap.size (.slice a n c) l 0 ((w.alloc (.cells #[.slice a n c, .slice none 0 0] 211)).alloc (.map #[] 0))) := hid (by
    refine ⟨fun _ => ?_, fun j e => by omega, ((Tn.refl No w).alloc _).alloc _, by simp; omega⟩
    have h := CB.new w #[.slice a n c, .slice none 0 0] 211
    have h' := h.kept (w' := (w.alloc (.cells #[.slice a n c, .slice none 0 0] 211)).alloc (.map #[] 0)) (Below.heap_alloc _ _ _ h.lt)
    refine ⟨h'.lt, fun i hi => ?_, fun i _ => h'.froz i⟩
    have : i = 0 ∨ i = 1 := by omega
    rcases this with rfl | rfl
    · exact h'.cell 0 (by simp)
    · exact h'.cell 1 (by simp))
  clear hat hf hp hn
  go_enter Tryz.func64, Tryz.ntmps64
  go_wp2_with fail
  go_loopw [17] (fun i wr => ∃ q : Nat, q ≤ n ∧ i = .int .i64 (q : Int) ∧ Hid (NG w w.heap.size (.slice a n c) l q wr)) (fun i _ => n - (intOf i).toNat)
  case atStart => exact ⟨0, by omega, rfl, HG0⟩
  case round =>
    obtain ⟨q, hq, rfl, HG⟩ := hrel
    clear HG0
    by_cases hlt : q < n
    · have hql : q < l.length := by have := HN.out; omega
      obtain ⟨g, o, rfl, hg, hcell⟩ := HAT.out (by omega)
      have hcr : ∀ i (hi : i < l.length) j, j < 11 → wr.cell? ⟨g, o + (i * 11 + j), none⟩ = (eW l[i])[j]? := fun i hi j hj => by rw [HG.out.tn.cell hg (fun e => e)]; exact hcell i hi j hj
      obtain ⟨q0, q1, q2, q3, q4, q5, q6, q7, q8, q9, q10⟩ := word_cells hcr q hql
      obtain ⟨va, vc', hxv⟩ := HFO.out l[q] (List.getElem_mem hql)
      obtain ⟨hk19, hkc⟩ := HFL.out.no q hql
      have HGET : Hid (((l[q]?).map Wd.k |>.getD 0) = l[q].k) := hid (by simp [hql])
      obtain ⟨x, hx⟩ : ∃ x, l[q] = x := ⟨_, rfl⟩
      rw [hx] at q0 q1 q2 q3 q4 q5 q6 q7 q8 q9 q10 hxv hk19 hkc HGET
      obtain ⟨xk, xd, xa, xb, xl, xf, xc, xr, xs, xi, xv, xargs⟩ := x
      simp only at q0 q1 q2 q3 q4 q5 q6 q7 q8 q9 q10 hxv hk19 hkc HGET
      subst hxv
      generalize xargs.length = vn at *
      have hqi : (q : Int) < (n : Int) := by omega
      have nk : (xk == 19) = false := by simpa using hk19
      have HLV := hid (fun u => leaves_raw xk u)
      have HCL : Hid (∀ u, Calls Tryz.prog 101 #[.int .i64 xk] u fun e w' => e = .returned (.bool false) ∧ w' = u) := hid (fun u => by rw [← hkc]; exact calls_raw xk u)
      obtain ⟨lv, hlv⟩ : ∃ lv, leavesF xk = lv := ⟨_, rfl⟩
      rw [hlv] at HLV
      have hgl := HG.out.lt
      have HCR := hid hcr
      clear hcr hx hcell HAT HFO hk19 hkc hg
      by_cases hq0 : q = 0
      · have hcg := HG.out.g hq0
        have hqe : ((q : Int) == 0) = true := by simp; omega
        have hqw : IntKind.i32.wrap (q : Int) = (q : Int) := by simp [IntKind.wrap, IntKind.bits, IntKind.signed]; omega
        have HQ0 := hid hq0
        clear hq0
        have k0 := hcg.cell 0 (by omega)
        have k1 := hcg.cell 1 (by omega)
        have kf0 := hcg.froz 0 (by omega)
        have kf1 := hcg.froz 1 (by omega)
        simp at k0 k1
        have hne1 : ¬ (w.heap.size = wr.heap.size) := by omega
        have HPB : Hid (∀ u, Tn No wr u → ∃ bb cap w', (Builtin.append_ #[209, 209] 209 #[.slice none 0 0, .slice (some ⟨u.heap.size, 0, none⟩) 1 1]).run Tryz.prog (u.alloc (.cells #[.int .i32 (q : Int), .int .i32 0, .int .i32 (-1), .int .i32 (-1), .int .i32 (-1), .bool false, .bool false, .bool false, .bool false, .int .u64 0, .int .u64 0] 214)) = .ok (.slice (some ⟨bb, 0, none⟩) 1 cap) w' ∧ CN w' bb 11 (bk (q : Int) 0 false false) ∧ u.heap.size < bb ∧ Tn No u w') := hid (fun u t => by
          obtain ⟨bb, cap, w', h1, h2, h3, h4⟩ := push_bk (u.alloc (.cells #[.int .i32 (q : Int), .int .i32 0, .int .i32 (-1), .int .i32 (-1), .int .i32 (-1), .bool false, .bool false, .bool false, .bool false, .int .u64 0, .int .u64 0] 214)) (q : Int) u.heap.size (fun j x hx => by
            have : (u.alloc (.cells #[.int .i32 (q : Int), .int .i32 0, .int .i32 (-1), .int .i32 (-1), .int .i32 (-1), .bool false, .bool false, .bool false, .bool false, .int .u64 0, .int .u64 0] 214)).cell? ⟨u.heap.size, j, none⟩ = #[.int .i32 (q : Int), .int .i32 0, .int .i32 (-1), .int .i32 (-1), .int .i32 (-1), .bool false, .bool false, .bool false, .bool false, .int .u64 0, .int .u64 0][j]? := World.cell?_alloc_mark _ _ _ _ j
            rw [this, ← hx]; simp [eBk])
          exact ⟨bb, cap, w', h1, h2, by simp at h3; omega, ((Tn.refl No u).alloc _).then h4⟩)
        obtain ⟨bb, cap, w6, hrun, hbk, hbg, t6⟩ := HPB.out (wr.alloc (.cells #[.int .i64 xk, .int .i64 xd, .int .i64 xa, .int .i64 xb, .int .i64 xl, .int .i64 xf, .int .i64 xc, .int .i64 xr, .int .i64 xs, .int .i64 xi, .slice va vn vc'] 79)) ((Tn.refl No wr).alloc _)
        have hs1 : (wr.alloc (.cells #[.int .i64 xk, .int .i64 xd, .int .i64 xa, .int .i64 xb, .int .i64 xl, .int .i64 xf, .int .i64 xc, .int .i64 xr, .int .i64 xs, .int .i64 xi, .slice va vn vc'] 79)).heap.size = wr.heap.size + 1 := by simp
        rw [hs1] at hrun hbg
        have z6 := t6.size
        rw [hs1] at z6
        have HRUN := hid hrun
        have d0 : w6.cell? ⟨wr.heap.size, 0, none⟩ = some (.int .i64 xk) := by
          rw [t6.cell (by rw [hs1]; omega) (fun e => e)]
          exact World.cell?_alloc_mark _ _ _ _ 0
        have hcg6 := hcg.no (((Tn.refl No wr).alloc (.cells #[.int .i64 xk, .int .i64 xd, .int .i64 xa, .int .i64 xb, .int .i64 xl, .int .i64 xf, .int .i64 xc, .int .i64 xr, .int .i64 xs, .int .i64 xi, .slice va vn vc'] 79)).then t6)
        have m1 : w6.cell? ⟨w.heap.size, 1, none⟩ = some (.slice none 0 0) := hcg6.cell 1 (by omega)
        have mf := hcg6.froz 1 (by omega)
        have b1 : w6.cell? ⟨bb, 1, none⟩ = some (.int .i32 0) := hbk.cell 1 (by omega)
        have b5 : w6.cell? ⟨bb, 5, none⟩ = some (.bool false) := hbk.cell 5 (by omega)
        have b6 : w6.cell? ⟨bb, 6, none⟩ = some (.bool false) := hbk.cell 6 (by omega)
        have bf1 := hbk.froz 1 (by omega)
        have bf5 := hbk.froz 5 (by omega)
        have bf6 := hbk.froz 6 (by omega)
        have hbl := hbk.lt
        have hne2 : ¬ (bb = w.heap.size) := by omega
        have hne3 : ¬ (w.heap.size = bb) := by omega
        have hne4 : ¬ (bb = wr.heap.size) := by omega
        have hne5 : ¬ (wr.heap.size = bb) := by omega
        have hne6 : ¬ (wr.heap.size = w.heap.size) := by omega
        have hl6 : wr.heap.size < w6.heap.size := by omega
        have hl7 : w.heap.size < w6.heap.size := by omega
        have hqw2 : IntKind.i32.wrap (IntKind.i64.wrap ((q : Int) + 1)) = (q : Int) + 1 := by simp [IntKind.wrap, IntKind.bits, IntKind.signed]; omega
        have HEND : Hid (∀ k, NG w w.heap.size (.slice (some ⟨g, o, none⟩) n c) l (q + 1) (((((w6.setCell ⟨w.heap.size, 1, none⟩ (.slice (some ⟨bb, 0, none⟩) 1 cap)).drewN k).setCell ⟨bb, 1, none⟩ (.int .i32 ((q : Int) + 1))).setCell ⟨bb, 5, none⟩ (.bool !lv)).setCell ⟨bb, 6, none⟩ (.bool false))) := hid (fun k => by
          refine ng_end (U := w6.setCell ⟨w.heap.size, 1, none⟩ (.slice (some ⟨bb, 0, none⟩) 1 cap)) (cap := cap) (t0 := 0) (f := false) ((hcg6.set 1 (by omega) _).congr (fun i hi => ?_)) ((hbk.kept (Below.heap_setCell _ _ _ _ hne2)).congr (fun i hi => by have := HQ0.out; subst this; rfl)) hne2 (by omega) ((HG.out.tn.then (((Tn.refl No wr).alloc _).then t6)).set _ _ (fun e => by simp only at e; omega)) (by rw [HGET.out, hlv])
          have : i = 0 ∨ i = 1 := by omega
          rcases this with rfl | rfl <;> simp [upd, gc])
        clear hrun HPB HG
        go_wp2_with (first
          | (go_at_call 101; refine (HCL.out _).mono ?_; rintro e w2 ⟨rfl, rfl⟩)
          | (at_builtin; refine wpList_app _ rfl _ _ _ _ rfl _ _ rfl rfl _ w6 HRUN.out ?_))
        go_quiet (fail)
        go_wp2_with fail
        go_region_with (first
          | (go_at_call 94; refine (HLV.out _).mono ?_; rintro e w7 ⟨rfl, rfl⟩)
          | (go_at_call 101; refine (HCL.out _).mono ?_; rintro e w7 ⟨rfl, rfl⟩))
        all_goals
          go_wp2_with fail
          go_roundw
          case rel => exact ⟨q + 1, by omega, by go_num, hid (HEND.out _)⟩
          case measure => simp [intOf]; omega
      · obtain ⟨j, hj⟩ : ∃ j, q = j + 1 := ⟨q - 1, by omega⟩
        obtain ⟨bb, cap, hcg, hbk, hbw, hbne⟩ := HG.out.b j hj
        have hjl : j < l.length := by omega
        obtain ⟨e0, _, _, _, _, _, _, _, _, _, _⟩ := word_cells HCR.out j hjl
        have hen := HFL.out.ends j (by omega)
        obtain ⟨kp, hkp⟩ : ∃ kp, l[j].k = kp := ⟨_, rfl⟩
        rw [hkp] at e0 hen
        have hgr : g < wr.heap.size := World.block_lt_of_cell? _ _ e0
        have HEN : Hid (∀ u, Calls Tryz.prog 102 #[.int .i64 kp] u fun e w' => e = .returned (.bool false) ∧ w' = u) := hid (fun u => by rw [← hen]; exact ends_raw kp u)
        have hqj : (q : Int) - 1 = (j : Int) := by omega
        have hj0 : 0 ≤ (j : Int) := by omega
        have hjn : (j : Int) < (n : Int) := by omega
        have hqe : ((q : Int) == 0) = false := by simp; omega
        have m1 : wr.cell? ⟨w.heap.size, 1, none⟩ = some (.slice (some ⟨bb, 0, none⟩) 1 cap) := hcg.cell 1 (by omega)
        have b1 : wr.cell? ⟨bb, 1, none⟩ = some (.int .i32 (q : Int)) := hbk.cell 1 (by omega)
        have b5 := hbk.cell 5 (by omega)
        have b6 : wr.cell? ⟨bb, 6, none⟩ = some (.bool false) := hbk.cell 6 (by omega)
        have bf1 := hbk.froz 1 (by omega)
        have bf5 := hbk.froz 5 (by omega)
        have bf6 := hbk.froz 6 (by omega)
        have hbl := hbk.lt
        have hne3 : ¬ (w.heap.size = bb) := fun e => hbne e.symm
        have hne4 : ¬ (bb = wr.heap.size) := by omega
        have hne5 : ¬ (wr.heap.size = bb) := by omega
        have hqw2 : IntKind.i32.wrap (IntKind.i64.wrap ((q : Int) + 1)) = (q : Int) + 1 := by simp [IntKind.wrap, IntKind.bits, IntKind.signed]; omega
        have hcgU := hcg.no ((Tn.refl No wr).alloc (.cells #[.int .i64 xk, .int .i64 xd, .int .i64 xa, .int .i64 xb, .int .i64 xl, .int .i64 xf, .int .i64 xc, .int .i64 xr, .int .i64 xs, .int .i64 xi, .slice va vn vc'] 79))
        have hbkU := hbk.no ((Tn.refl No wr).alloc (.cells #[.int .i64 xk, .int .i64 xd, .int .i64 xa, .int .i64 xb, .int .i64 xl, .int .i64 xf, .int .i64 xc, .int .i64 xr, .int .i64 xs, .int .i64 xi, .slice va vn vc'] 79))
        have HEND : Hid (∀ k, NG w w.heap.size (.slice (some ⟨g, o, none⟩) n c) l (q + 1) (((((wr.alloc (.cells #[.int .i64 xk, .int .i64 xd, .int .i64 xa, .int .i64 xb, .int .i64 xl, .int .i64 xf, .int .i64 xc, .int .i64 xr, .int .i64 xs, .int .i64 xi, .slice va vn vc'] 79)).drewN k).setCell ⟨bb, 1, none⟩ (.int .i32 ((q : Int) + 1))).setCell ⟨bb, 5, none⟩ (.bool !lv)).setCell ⟨bb, 6, none⟩ (.bool false))) := hid (fun k =>
          ng_end hcgU hbkU hbne hbw (HG.out.tn.alloc _) (by rw [HGET.out, hlv]))
        clear HG hcg hbk hj hen hkp hq0 hcgU hbkU hbw hlv HCR
        go_wp2_with (first
          | (go_at_call 101; refine (HCL.out _).mono ?_; rintro e w2 ⟨rfl, rfl⟩)
          | (go_at_call 102; refine (HEN.out _).mono ?_; rintro e w2 ⟨rfl, rfl⟩))
        go_quiet (fail)
        go_wp2_with fail
        go_region_with (first
          | (go_at_call 94; refine (HLV.out _).mono ?_; rintro e w7 ⟨rfl, rfl⟩)
          | (go_at_call 101; refine (HCL.out _).mono ?_; rintro e w7 ⟨rfl, rfl⟩))
        all_goals
          go_wp2_with fail
          go_roundw
          case rel => exact ⟨q + 1, by omega, by go_num, hid (HEND.out _)⟩
          case measure => simp [intOf]; omega
    · obtain rfl : q = n := by omega
      obtain ⟨m, hm⟩ : ∃ m, q = m + 1 := ⟨q - 1, by omega⟩
      obtain ⟨bb, cap, hcg, hbk, hbw, hbne⟩ := HG.out.b m hm
      have hml : m < l.length := by have := HN.out; omega
      obtain ⟨g, o, rfl, hg, hcell⟩ := HAT.out (by omega)
      have hcr : ∀ i (hi : i < l.length) j, j < 11 → wr.cell? ⟨g, o + (i * 11 + j), none⟩ = (eW l[i])[j]? := fun i hi j hj => by rw [HG.out.tn.cell hg (fun e => e)]; exact hcell i hi j hj
      obtain ⟨q0, q1, q2, q3, q4, q5, q6, q7, q8, q9, q10⟩ := word_cells hcr m hml
      obtain ⟨va, vc', hxv⟩ := HFO.out l[m] (List.getElem_mem hml)
      have hlast : l[m].k ≠ 20 ∧ l[m].k ≠ 21 := by
        have := HFL.out.last
        have e : l.length - 1 = m := by have := HN.out; omega
        simp only [e] at this
        exact this
      obtain ⟨x, hx⟩ : ∃ x, l[m] = x := ⟨_, rfl⟩
      rw [hx] at q0 q1 q2 q3 q4 q5 q6 q7 q8 q9 q10 hxv hlast
      obtain ⟨xk, xd, xa, xb, xl, xf, xc, xr, xs, xi, xv, xargs⟩ := x
      simp only at q0 q1 q2 q3 q4 q5 q6 q7 q8 q9 q10 hxv hlast
      subst hxv
      generalize xargs.length = vn at *
      have n20 : (xk == 20) = false := by simpa using hlast.1
      have n21 : (xk == 21) = false := by simpa using hlast.2
      have m1 : wr.cell? ⟨w.heap.size, 1, none⟩ = some (.slice (some ⟨bb, 0, none⟩) 1 cap) := hcg.cell 1 (by omega)
      have b1 : wr.cell? ⟨bb, 1, none⟩ = some (.int .i32 (q : Int)) := hbk.cell 1 (by omega)
      have hqm : (q : Int) - 1 = (m : Int) := by omega
      have hqw : IntKind.i32.wrap ((q : Int) - 1) = (m : Int) := by rw [hqm]; simp [IntKind.wrap, IntKind.bits, IntKind.signed]; omega
      have hm0 : 0 ≤ (m : Int) := by omega
      have hmq : (m : Int) < (q : Int) := by omega
      have hgr : g < wr.heap.size := World.block_lt_of_cell? _ _ q0
      have hbl := hbk.lt
      have hgl := HG.out.lt
      have HEND : Hid (∀ u, Tn No wr u → ∃ bb cap, CN u w.heap.size 2 (gc (.slice (some ⟨g, o, none⟩) q c) bb cap) ∧ CN u bb 11 (bk 0 (q : Int) (!leavesF ((l[q - 1]?).map Wd.k |>.getD 0)) false) ∧ w.heap.size ≤ bb ∧ bb ≠ w.heap.size ∧ Tn No w u) := hid (fun u t => by
        have e : q - 1 = m := by omega
        rw [e]
        exact ⟨bb, cap, hcg.no t, hbk.no t, hbw, hbne, HG.out.tn.then t⟩)
      clear HG hcg hbk hcr hx hcell HAT HFO HFL hg hlast hm hbw hmm
      go_wp2_with fail
      obtain ⟨wa, hwa⟩ : ∃ wa, wa = wr := ⟨wr, rfl⟩
      subst hwa
      go_loopw [104] (fun i u => ∃ j : Nat, j ≤ 1 ∧ i = .int .i64 (j : Int) ∧ Hid (Tn No wa u)) (fun i _ => 1 - (intOf i).toNat)
      case atStart => exact ⟨0, by omega, rfl, hid (Tn.refl _ _)⟩
      case round =>
        obtain ⟨j, hj, rfl, HT⟩ := hrel
        have T := HT.out
        have bl0 := hgr
        by_cases hj1 : j < 1
        · obtain rfl : j = 0 := by omega
          have q0' := (T.cell hgr (fun e => e)).trans q0
          have q1' := (T.cell hgr (fun e => e)).trans q1
          have q2' := (T.cell hgr (fun e => e)).trans q2
          have q3' := (T.cell hgr (fun e => e)).trans q3
          have q4' := (T.cell hgr (fun e => e)).trans q4
          have q5' := (T.cell hgr (fun e => e)).trans q5
          have q6' := (T.cell hgr (fun e => e)).trans q6
          have q7' := (T.cell hgr (fun e => e)).trans q7
          have q8' := (T.cell hgr (fun e => e)).trans q8
          have q9' := (T.cell hgr (fun e => e)).trans q9
          have q10' := (T.cell hgr (fun e => e)).trans q10
          have m1' := (T.cell hgl (fun e => e)).trans m1
          have b1' := (T.cell hbl (fun e => e)).trans b1
          clear q0 q1 q2 q3 q4 q5 q6 q7 q8 q9 q10 m1 b1 T
          go_wp2_with fail
          go_roundw
          case rel => exact ⟨1, by omega, by go_num, hid (HT.out.alloc _)⟩
          case measure => simp [intOf]
        · obtain rfl : j = 1 := by omega
          go_wp2_with fail
          go_ret
          obtain ⟨bb, cap, h1, h2, h3, h4, h5⟩ := HEND.out _ HT.out
          exact ⟨bb, cap, rfl, h1, h2, h3, h4, h5⟩
end Go.Proofs.YtoidddfpekbliaaGreat
