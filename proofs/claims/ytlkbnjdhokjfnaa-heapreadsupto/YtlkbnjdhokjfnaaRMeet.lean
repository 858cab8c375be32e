/-
  heap's reference: what was met, in a row and by numbers; meet.
-/
import Derived.Test.YtlkbnjdhokjfnaaHGrA
namespace Go.Proofs.Ytlkbnjdhokjfnaa
set_option linter.unusedSimpArgs false
set_option linter.unusedVariables false
open Go.RowKit
attribute [local go_sem ↓] Go.wp_at_zero Go.wp_at_succ

def RO2 (p _b : Nat) (mv : Value) (k : Nat) : Prop := k = p ∨ mv.ownBlock = some k
def numC (row : List Int) (x : Nat) : Int := if (x : Int) ∈ row then ((Hp.pos row (x : Int) : Nat) : Int) else -1
/-- what was met: numbers of b things at block p, the row mv -/
structure RB (w : World) (p b : Nat) (mv : Value) (row : List Int) : Prop where
  lt : p < w.heap.size
  fz : ∀ i, w.frozen? ⟨p, i, none⟩ = false
  nums : ∀ x : Nat, x < b → w.cell? ⟨p, x, none⟩ = some (.int .i64 (numC row x))
  met : LR 1 eI w mv row
  pm : mv.ownBlock ≠ some p
theorem RB.kept {w w' : World} {p b : Nat} {mv : Value} {row : List Int} {F : Nat → Prop} (h : RB w p b mv row) (t : Tn F w w') (hn : ∀ k, RO2 p b mv k → ¬ F k) : RB w' p b mv row :=
  ⟨Nat.lt_of_lt_of_le h.lt t.size, fun i => by rw [t.frozen h.lt (hn _ (.inl rfl))]; exact h.fz i, fun x hx => by rw [t.cell h.lt (hn _ (.inl rfl))]; exact h.nums x hx, h.met.tn t (fun g hg => hn g (.inr hg)), h.pm⟩
theorem RB.no {w w' : World} {p b : Nat} {mv : Value} {row : List Int} (h : RB w p b mv row) (t : Tn No w w') : RB w' p b mv row := h.kept t (fun _ _ e => e)
theorem RB.olt {w : World} {p b : Nat} {mv : Value} {row : List Int} (h : RB w p b mv row) : ∀ k, RO2 p b mv k → k < w.heap.size := by
  intro k hk
  rcases hk with rfl | hk
  · exact h.lt
  · exact h.met.rw.lt k hk

theorem int_info : (Try.prog.info? 3).map (fun i => (i.zero, i.size, i.bytes)) = some (some (.int .i64 0), 1, 8) := by kernel_rfl
theorem li_push {w : World} {v : Value} {l : List Int} (h : LR 1 eI w v l) (x : Int) (b : Nat) (hb : w.cell? ⟨b, 0, none⟩ = some (.int .i64 x)) (hl : l.length + 1 ≤ 4294967296) :
    ∃ v' w', (Builtin.append_ #[56, 56] 56 #[v, .slice (some ⟨b, 0, none⟩) 1 1]).run Try.prog w = .ok v' w' ∧ LR 1 eI w' v' (l ++ [x]) ∧ Ou w v w' v' := by
  obtain ⟨v', w', h1, h2, h3, h4⟩ := lr_push (size := 1) Try.underlying56 int_info rfl (by omega) h x rfl (by intro u hu; simp [eI] at hu; subst hu; rfl) b (fun j u hu => by
    cases j with
    | zero => simp [eI] at hu; subst hu; exact hb
    | succ j => simp [eI] at hu) (by unfold maxLen; omega) (by omega) 56
  exact ⟨v', w', h1, h2, Ou.of h3 h4⟩

theorem pos_new {row : List Int} {x : Int} (h : x ∉ row) : Hp.pos (row ++ [x]) x = row.length := by
  induction row with
  | nil => simp [Hp.pos]
  | cons y r ih =>
    have h1 : ¬ x = y := fun e => h (by rw [e]; exact List.mem_cons_self ..)
    have h2 : x ∉ r := fun e => h (List.mem_cons_of_mem _ e)
    have h3 : ¬ y = x := fun e => h1 e.symm
    have := ih h2
    simp only [Hp.pos, List.cons_append, List.idxOf_cons, List.length_cons] at this ⊢
    simp [h3, this]

/-- one more that is met -/
theorem RB.push {W : World} {p b : Nat} {mv : Value} {row : List Int} (h : RB W p b mv row) {N : Nat} (hN : N < b) (hno : (N : Int) ∉ row) (hl : row.length + 1 ≤ 4294967296) :
    ∃ mv' w4, (Builtin.append_ #[56, 56] 56 #[mv, .slice (some ⟨W.heap.size, 0, none⟩) 1 1]).run Try.prog ((W.setCell ⟨p, N, none⟩ (.int .i64 (row.length : Int))).alloc (.cells #[.int .i64 (N : Int)] 3)) = .ok mv' w4 ∧
      RB w4 p b mv' (row ++ [(N : Int)]) ∧ Up (RO2 p b mv) W (RO2 p b mv') w4 ∧ w4.cell? ⟨p, N, none⟩ = some (.int .i64 (row.length : Int)) := by
  have hlt := h.lt
  obtain ⟨W1, hW1⟩ : ∃ W1, W.setCell ⟨p, N, none⟩ (.int .i64 (row.length : Int)) = W1 := ⟨_, rfl⟩
  have s1 : W1.heap.size = W.heap.size := by rw [← hW1]; simp
  have t1 : Tn (fun k => k = p) W W1 := by rw [← hW1]; exact (Tn.refl (fun k => k = p) W).set _ _ (fun _ => rfl)
  rw [hW1]
  have t2 : Tn No W1 (W1.alloc (.cells #[.int .i64 (N : Int)] 3)) := (Tn.refl No W1).alloc _
  have hm1 : LR 1 eI W1 mv row := h.met.tn t1 (fun g hg e => h.pm (by rw [← e]; exact hg))
  obtain ⟨mv', w4, hr, hlr, hou⟩ := li_push (hm1.no t2) (N : Int) W.heap.size (by rw [← s1, World.cell?_alloc_new]; rfl) hl
  have z4 := hou.tn.size
  have z2 := t2.size
  have hpm : ¬ mv.ownBlock = some p := h.pm
  have hcell : ∀ x, w4.cell? ⟨p, x, none⟩ = W1.cell? ⟨p, x, none⟩ := fun x => by rw [hou.tn.cell (by omega) hpm, t2.cell (by omega) (fun e => e)]
  have hset : W1.cell? ⟨p, N, none⟩ = some (.int .i64 (row.length : Int)) := by rw [← hW1]; exact World.cell?_setCell_same W _ _ (h.nums N hN)
  refine ⟨mv', w4, hr, ⟨by omega, fun i => ?_, fun x hx => ?_, hlr, fun e => ?_⟩, ⟨?_, fun k e => ?_⟩, by rw [hcell]; exact hset⟩
  · rw [hou.tn.frozen (by omega) hpm, t2.frozen (by omega) (fun e => e), ← hW1, World.frozen?_setCell]; exact h.fz i
  · rw [hcell]
    by_cases e : x = N
    · subst e
      rw [hset]
      unfold numC
      rw [if_pos (by simp), pos_new hno]
    · rw [← hW1, World.cell?_setCell_other _ _ _ _ (by simp <;> omega), h.nums x hx]
      unfold numC
      have hne : ¬ (x : Int) = (N : Int) := by omega
      by_cases hin : (x : Int) ∈ row
      · rw [if_pos hin, if_pos (by simp [hin]), Hp.pos_append hin]
      · rw [if_neg hin, if_neg (by simp [hin, hne])]
  · rcases hou.own p e with e | e
    · exact hpm e
    · omega
  · exact (t1.mono (fun k _ e => .inl e)).trans ((t2.any).trans (hou.tn.mono (fun k _ e => .inr e)) (fun _ _ e => e) (fun _ _ e => e)) (fun _ _ e => e) (fun _ _ e => e)
  · rcases e with e | e
    · exact .inl (.inl e)
    · rcases hou.own k e with e | e
      · exact .inl (.inr e)
      · exact .inr (by omega)

structure Rn2 (w : World) (p b : Nat) (mv : Value) (row : List Int) (l : List Rf) (v : Value) (w' : World) (mv' : Value) : Prop where
  lr : LR 2 eR w' v (l.map (renR (meetRs row l)))
  new : ∀ g, v.ownBlock = some g → w.heap.size ≤ g ∧ ¬ RO2 p b mv' g
  ra : RB w' p b mv' (meetRs row l)
  up : Up (RO2 p b mv) w (RO2 p b mv') w'
theorem Rn2.push {w : World} {p b : Nat} {mv : Value} {row : List Int} {l : List Rf} {v : Value} {w1 : World} {mv1 : Value} {k : Nat} (hk : k < l.length) {w2 : World} {mv2 : Value}
    (h : Rn2 w p b mv row (l.take k) v w1 mv1) (ra : RB w2 p b mv2 (meetR (meetRs row (l.take k)) l[k])) (up : Up (RO2 p b mv1) w1 (RO2 p b mv2) w2) (c : Nat) {r : Rf} (hr : r = renR (meetR (meetRs row (l.take k)) l[k]) l[k]) (c0 : w2.cell? ⟨c, 0, none⟩ = some (.int .i64 r.1)) (c1 : w2.cell? ⟨c, 1, none⟩ = some (.int .i64 r.2)) (hl : l.length ≤ 4294967295) :
    ∃ v' w', (Builtin.append_ #[22, 22] 22 #[v, .slice (some ⟨c, 0, none⟩) 1 1]).run Try.prog w2 = .ok v' w' ∧ Rn2 w p b mv row (l.take (k + 1)) v' w' mv2 := by
  subst hr
  obtain ⟨e1, e2⟩ := ren_succ (row := row) hk
  obtain ⟨hlr, hno⟩ := h.lr.up up (fun g hg => (h.new g hg).2)
  obtain ⟨v', w', hrun, lr', ou⟩ := lref_push hlr _ c c0 c1 (by simp; omega)
  refine ⟨v', w', hrun, by rw [e2]; exact lr', fun g hg => ?_, ?_, ?_⟩
  · rcases ou.own g hg with e | e
    · exact ⟨(h.new g e).1, hno g e⟩
    · refine ⟨Nat.le_trans (h.up.trans up).tn.size e, fun e' => ?_⟩
      have := ra.olt g e'; omega
  · rw [e1]
    exact ra.kept ou.tn (fun g hg e => hno g e hg)
  · refine ⟨(h.up.trans up).tn.trans ou.tn (fun _ _ e => e) (fun i hi e => ?_), (h.up.trans up).own⟩
    have := (h.new i e).1; omega

set_option maxHeartbeats 8000000 in
set_option maxRecDepth 100000 in
theorem rmeet_raw (lv : Value) (l : List Rf) (p b : Nat) (mv : Value) (row : List Int) (w0 w : World) (h : LD 2 eR w0 lv l) (t0 : Tn No w0 w) (hl : l.length ≤ 1073741824) (hb : b ≤ 1073741824) (hfit : ∀ r ∈ l, r.1 = 2 → 0 ≤ r.2 ∧ r.2 < (b : Int)) (hnot : ∀ g, RO2 p b mv g → w0.heap.size ≤ g)
    (hra : RB w p b mv row) (hrow : row.length ≤ 1073741824) : Calls Try.prog 39 #[lv, .slice (some ⟨p, 0, none⟩) b b, mv] w fun e w' => ∃ v mv', e = .returned (.tuple #[v, mv']) ∧ Rn2 w p b mv row l v w' mv' := by
  obtain ⟨m, hm⟩ : ∃ m, l.length = m := ⟨_, rfl⟩
  rw [hm] at hl
  obtain ⟨a, c, hv, hc, hcm, hat⟩ := h
  rw [hm] at hv
  subst hv
  have HAT : Hid (0 < l.length → ∃ g o, a = some ⟨g, o, none⟩ ∧ g < w.heap.size ∧ ¬ RO2 p b mv g ∧ ∀ i (hi : i < l.length) j, j < 2 → w.cell? ⟨g, o + (i * 2 + j), none⟩ = (eR l[i])[j]?) := hid (fun h0 => by
    obtain ⟨g, o, rfl, hg, hcell⟩ := hat h0
    exact ⟨g, o, rfl, Nat.lt_of_lt_of_le hg t0.size, (fun e => by have := hnot g e; omega), fun i hi j hj => by rw [t0.cell hg (fun e => e)]; exact hcell i hi j hj⟩)
  have HM := hid hm
  have HOK := hid hfit
  have HSTART : Hid (Rn2 w p b mv row [] (.slice none 0 0) w mv) := hid ⟨LR.nil _ _ _, (fun g hg => by cases hg), hra, Up.refl _ _⟩
  obtain ⟨ma, mc, hmf, -⟩ := hra.met.rw.form
  clear hat hm hnot hfit hra t0
  go_enter Try.func39, Try.ntmps39
  go_wp2_with fail
  go_loopw [2, 8, 9] (fun mv1 v i wr => ∃ k : Nat, k ≤ m ∧ i = .int .i64 (k : Int) ∧ Rn2 w p b mv row (l.take k) v wr mv1) (fun _ _ i _ => m - (intOf i).toNat)
  case atStart => exact ⟨0, by omega, rfl, HSTART.out⟩
  case round =>
    obtain ⟨k, hk, rfl, hrn⟩ := hrel
    clear HSTART
    obtain ⟨xa, xc, hxf, -⟩ := hrn.ra.met.rw.form
    by_cases hlt : k < m
    · have hkl : k < l.length := by have := HM.out; omega
      have hll : l.length ≤ 4294967295 := by have := HM.out; omega
      obtain ⟨g, o, rfl, hg, hgn, hcell⟩ := HAT.out (by omega)
      obtain ⟨q0, q1⟩ := ref_cells hcell k hkl
      rw [← hrn.up.tn.cell hg hgn] at q0 q1
      have hgl : g < wr.heap.size := Nat.lt_of_lt_of_le hg hrn.up.tn.size
      have hki : (k : Int) < (m : Int) := by omega
      have hfit := HOK.out _ (List.getElem_mem hkl)
      have hrl : (meetRs row (l.take k)).length + 1 ≤ 4294967296 := by
        obtain ⟨mm, em, hmm⟩ := meetRs_more row (l.take k)
        rw [em]; simp at hmm ⊢; omega
      have hplt := hrn.ra.lt
      by_cases h2 : l[k].1 = 2
      · obtain ⟨N, hN⟩ : ∃ N : Nat, l[k].2 = (N : Int) := ⟨l[k].2.toNat, by have := hfit h2; omega⟩
        have hNb : N < b := by have := hfit h2; omega
        have hnum := hrn.ra.nums N hNb
        have hmr : meetR (meetRs row (l.take k)) l[k] = meetI (meetRs row (l.take k)) (N : Int) := by simp [meetR, h2, hN]
        have hren : renR (meetR (meetRs row (l.take k)) l[k]) l[k] = (2, ((Hp.pos (meetI (meetRs row (l.take k)) (N : Int)) (N : Int) : Nat) : Int)) := by simp [renR, hmr, h2, hN]
        rw [h2] at q0
        rw [hN] at q1
        have hNi : (N : Int) < (b : Int) := by omega
        by_cases hin : (N : Int) ∈ meetRs row (l.take k)
        · have hmi : meetI (meetRs row (l.take k)) (N : Int) = meetRs row (l.take k) := by simp [meetI, hin]
          rw [hmi] at hmr hren
          have hnc : numC (meetRs row (l.take k)) N = ((Hp.pos (meetRs row (l.take k)) (N : Int) : Nat) : Int) := by simp [numC, hin]
          rw [hnc] at hnum
          have hplen := Hp.pos_lt hin
          obtain ⟨q, hq⟩ : ∃ q, Hp.pos (meetRs row (l.take k)) (N : Int) = q := ⟨_, rfl⟩
          rw [hq] at hnum hren hplen
          have t1 : Tn No wr ((wr.alloc (.cells #[.int .i64 2, .int .i64 (q : Int)] 61)).alloc (.cells #[.int .i64 2, .int .i64 (q : Int)] 61)) := ((Tn.refl No wr).alloc _).alloc _
          obtain ⟨v', w', hr, hrn'⟩ := Rn2.push hkl hrn (by rw [hmr]; exact hrn.ra.no t1) (Up.no t1) (wr.heap.size + 1) (r := (2, (q : Int))) (by rw [hren]) (by rw [World.cell?_alloc_at _ _ _ _ (by simp)]; rfl) (by rw [World.cell?_alloc_at _ _ _ _ (by simp)]; rfl) hll
          have HR := hid hr
          have HRN' := hid hrn'
          have hq0 : (0 : Int) ≤ (q : Int) := by omega
          subst hxf
          clear hcell hrn h2 hmr hren HAT HOK t1 hr hrn' hin hmi hnc hq hfit hN hplen
          generalize (meetRs row (l.take k)).length = rl at *
          clear hkl
          go_wp2_with (at_builtin; refine wpList_app _ rfl _ _ _ _ rfl _ _ rfl rfl _ w' HR.out ?_)
          go_roundw
          case rel => exact ⟨k + 1, by omega, by go_num, HRN'.out⟩
          case measure => simp [intOf]; omega
        · have hmi : meetI (meetRs row (l.take k)) (N : Int) = meetRs row (l.take k) ++ [(N : Int)] := by simp [meetI, hin]
          rw [hmi] at hmr hren
          rw [pos_new hin] at hren
          have hnc : numC (meetRs row (l.take k)) N = -1 := by simp [numC, hin]
          rw [hnc] at hnum
          have hnf := hrn.ra.fz N
          obtain ⟨W, hW⟩ : ∃ W, wr.alloc (.cells #[.int .i64 2, .int .i64 (N : Int)] 61) = W := ⟨_, rfl⟩
          have t1 : Tn No wr W := by rw [← hW]; exact (Tn.refl No wr).alloc _
          have s1 : W.heap.size = wr.heap.size + 1 := by rw [← hW]; simp
          have hh : W.heap[wr.heap.size]? = some (.cells #[.int .i64 2, .int .i64 (N : Int)] 61 (0, 0)) := by rw [← hW]; exact heap_alloc_new wr _
          obtain ⟨mv2, w4, hr4, ra4, up4, c4⟩ := (hrn.ra.no t1).push hNb hin hrl
          rw [s1] at hr4
          have z4 := up4.tn.size
          have hnr : ¬ RO2 p b u2 wr.heap.size := fun e => by have := hrn.ra.olt _ e; omega
          have hnr2 : ¬ RO2 p b mv2 wr.heap.size := fun e => by
            rcases up4.own _ e with e | e
            · exact hnr e
            · omega
          have b4 : w4.heap[wr.heap.size]? = some (.cells #[.int .i64 2, .int .i64 (N : Int)] 61 (0, 0)) := by rw [up4.tn.block _ (by omega) hnr]; exact hh
          obtain ⟨rl, hrle⟩ : ∃ rl, (meetRs row (l.take k)).length = rl := ⟨_, rfl⟩
          rw [hrle] at hr4 c4 hren
          have ts : Tn (fun k => k = wr.heap.size) w4 (w4.setCell ⟨wr.heap.size, 1, none⟩ (.int .i64 (rl : Int))) := (Tn.refl (fun k => k = wr.heap.size) w4).set _ _ (fun _ => rfl)
          have t6 := (Tn.refl No (w4.setCell ⟨wr.heap.size, 1, none⟩ (.int .i64 (rl : Int)))).alloc (.cells #[.int .i64 2, .int .i64 (rl : Int)] 61)
          have e5 : (w4.setCell ⟨wr.heap.size, 1, none⟩ (.int .i64 (rl : Int))).heap.size = w4.heap.size := by simp
          have ra5 := (ra4.kept ts (fun k hk e => hnr2 (by rw [← e]; exact hk))).no t6
          have up5 : Up (RO2 p b u2) wr (RO2 p b mv2) ((w4.setCell ⟨wr.heap.size, 1, none⟩ (.int .i64 (rl : Int))).alloc (.cells #[.int .i64 2, .int .i64 (rl : Int)] 61)) := by
            have u2' := (Up.no t1).trans up4
            exact Up.trans ⟨u2'.tn.trans ts (fun _ _ e => e) (fun i hi e => by omega), u2'.own⟩ (Up.no t6)
          obtain ⟨v', w', hr, hrn'⟩ := Rn2.push hkl hrn (by rw [hmr]; exact ra5) up5 w4.heap.size (r := (2, (rl : Int))) (by rw [hren]) (by rw [← e5, World.cell?_alloc_new]; rfl) (by rw [← e5, World.cell?_alloc_new]; rfl) hll
          have HR4 := hid hr4
          have HR := hid hr
          have HRN' := hid hrn'
          have y0 : w4.cell? ⟨wr.heap.size, 0, none⟩ = some (.int .i64 2) := by simp only [World.cell?, b4]; rfl
          have y1 : w4.cell? ⟨wr.heap.size, 1, none⟩ = some (.int .i64 (N : Int)) := by simp only [World.cell?, b4]; rfl
          have y2 : w4.frozen? ⟨wr.heap.size, 1, none⟩ = false := by simp only [World.frozen?, b4]; rfl
          have y3 : wr.heap.size < w4.heap.size := by omega
          have y4 : p < w4.heap.size := ra4.lt
          have y5 : p ≠ wr.heap.size := by omega
          have y6 : wr.heap.size ≠ p := by omega
          rw [hrle] at hxf
          subst hxf
          rw [← hW, World.setCell_alloc_past _ _ _ _ hplt] at hr4
          have HR4' := hid hr4
          have hrl2 : (rl : Int) ≤ 4294967296 := by omega
          clear hcell hrn h2 hmr hren HAT HOK t1 hr hrn' hin hmi hnc hfit hN hW s1 hh ra4 up4 z4 hnr hnr2 b4 hrle ts t6 e5 ra5 up5 HR4 hr4 hrl
          clear hkl
          go_wp2_with (first
            | (at_builtin; refine wpList_app _ rfl _ _ _ _ rfl _ _ rfl rfl _ w4 HR4'.out ?_)
            | (at_builtin; refine wpList_app _ rfl _ _ _ _ rfl _ _ rfl rfl _ w' HR.out ?_))
          go_roundw
          case rel => exact ⟨k + 1, by omega, by go_num, HRN'.out⟩
          case measure => simp [intOf]; omega
      · have d2 : (l[k].1 == 2) = false := by simpa using h2
        have hmr : meetR (meetRs row (l.take k)) l[k] = meetRs row (l.take k) := by simp [meetR, h2]
        have hren : renR (meetR (meetRs row (l.take k)) l[k]) l[k] = l[k] := by simp [renR, h2]
        have t1 : Tn No wr ((wr.alloc (.cells #[.int .i64 l[k].1, .int .i64 l[k].2] 61)).alloc (.cells #[.int .i64 l[k].1, .int .i64 l[k].2] 61)) := ((Tn.refl No wr).alloc _).alloc _
        obtain ⟨v', w', hr, hrn'⟩ := Rn2.push hkl hrn (by rw [hmr]; exact hrn.ra.no t1) (Up.no t1) (wr.heap.size + 1) (r := l[k]) (by rw [hren]) (by rw [World.cell?_alloc_at _ _ _ _ (by simp)]; rfl) (by rw [World.cell?_alloc_at _ _ _ _ (by simp)]; rfl) hll
        have HR := hid hr
        have HRN' := hid hrn'
        clear hcell hrn h2 hmr hren HAT HOK t1 hr hrn' hfit hxf
        generalize l[k].1 = x1 at *
        generalize l[k].2 = x2 at *
        clear hkl
        go_wp2_with (at_builtin; refine wpList_app _ rfl _ _ _ _ rfl _ _ rfl rfl _ w' HR.out ?_)
        go_roundw
        case rel => exact ⟨k + 1, by omega, by go_num, HRN'.out⟩
        case measure => simp [intOf]; omega
    · obtain rfl : k = m := by omega
      have HRN := hid hrn
      clear hrn hxf
      go_wp2
      go_ret2
      have e1 : l.take k = l := List.take_of_length_le (by have := HM.out; omega)
      have := HRN.out
      rw [e1] at this
      exact ⟨_, _, rfl, this⟩
end Go.Proofs.Ytlkbnjdhokjfnaa
